import PyProof.Rows.All
import Wide.All
import OpenK.AllK
import PySem.Challenge.RW_likebook_k65_whole_claims_settled
open Option renaming some->Z9,none->Z8
open PySem.W renaming Frag->Z5,keepIn->Z4,kia_one->Z3
open PySem.PyData renaming strOk->Z2,str->Z1,list->Z0,int->ZZ,canLay0->ZY,bool->ZX,eqvAll->ZW,shownAll->ZV
open PySem.Value renaming ref->ZU
open Bool renaming true->Z7,false->Z6
open Lean.Parser.Command in
local macro_rules|`(def $a:declId $b:optDeclSig $c:declVal)=>`(noncomputable def $a:declId $b:optDeclSig $c:declVal)|`(abbrev $a:declId $b:optDeclSig $c:declVal)=>`(noncomputable abbrev $a:declId $b:optDeclSig $c:declVal)
noncomputable section
open Array renaming getD_eq_getD_getElem?->gj,getElem?_eq_getElem->oq,Perm->qo
open Bool renaming and_eq_true_iff->az,and_eq_true->bq,false_ne_true->gc,or_eq_true_iff->ij,or_eq_true->i4,not_eq_true'->jt,eq_iff_iff->j7,beq_eq_decide_eq->l9,eq_false_iff->oy,or_false->pd,and_false->rj,and_true->t8,or_true->vg
open Int renaming emod_nonneg->i6,toNat_natCast->ju,emod_lt_of_pos->ku,eq_ofNat_of_zero_le->qc,le_refl->sh
open List renaming length_map->ae,mem_singleton->ak,mem_cons->ao,getElem?_eq_getElem->aq,mem_map->au,getD_eq_getElem?_getD->av,map_cons->aw,getElem?_map->ba,replicate->bc,all_eq_true->bg,mem_cons_self->bj,mem_of_getElem?->bn,mem_append_right->bp,getElem?_eq_some_iff->br,map_append->bv,size_toArray->bw,length_cons->bz,mem_cons_of_mem->b0,append_nil->ce,length_append->cg,nodup_cons->ci,getElem?_set_ne->cj,length_replicate->cq,mem_append->cr,length_set->cz,all_cons->c8,getElem?_set_self->c9,length_take->db,map_map->dg,pairwise_cons->dj,getElem_mem->dq,find?_cons->dt,getElem?_replicate->du,lookup_cons->dz,range->d8,mem_filter->fh,not_mem_nil->fm,contains_iff_mem->fq,take_succ->fu,getElem?_set->ga,take_length->gg,any_eq_true->gh,take_of_length_le->gn,filterMap_cons->gp,filter_eq_self->gq,length_filter_le->gt,filter_append->gu,mem_append_left->gv,filter_cons_of_pos->gz,filter_cons_of_neg->g6,of_mem_zip->g8,map_nil->il,getElem?_append_left->iw,append_assoc->i7,map_inj_left->i8,map_congr_left->i9,length_eq_zero_iff->jc,pairwise_singleton->jf,nodup_nil->jg,cons_append->jh,any_cons->jo,take_sublist->jq,getElem?_append_right->jv,isEmpty_map->jy,filter_cons->jz,mem_or_eq_of_mem_set->j1,length_zip->j9,nil_append->km,mem_filterMap->ko,length_zipIdx->kt,getElem?_cons_succ->la,mem_range->lj,find?_cons_of_pos->lq,find?_cons_of_neg->lr,toArray->lu,pairwise_map->lv,nodup_append->l0,filter_eq_nil_iff->l6,flatMap_cons->l7,mem_of_mem_take->mj,getElem?_append->mo,replicate_succ->mw,getElem_of_mem->my,mem_map_of_mem->mz,all_map->nr,exists_cons_of_ne_nil->n9,find?_eq_none->oa,getElem?_eq_none_iff->ol,drop_eq_getElem_cons->om,filter->oz,foldl_append->o0,Pairwise->ph,filterMap_cons_none->pq,filterMap_cons_some->pv,sublist_append_left->pz,isEmpty_iff->qa,flatMap_nil->qb,any_map->qr,countP_mono_left->qu,getElem?_eq_none->qv,length->qz,getElem?_range->sw,zipIdx_map_fst->tm,flatMap_append->tq,getElem_zipIdx->tt,any_eq_false->ui,ext_getElem?->uu,map_id->wf,foldl->xa
open Nat renaming le_refl->af,le_trans->a8,zero_le->be,lt_of_lt_of_le->cf,lt_irrefl->cu,ne_of_lt->cx,lt_of_le_of_lt->iu,le_add_right->jd,pow_le_pow_right->jw,le_of_lt->jx,lt_trans->lm,le_of_not_lt->p7,succ_lt_succ->p9,ne_of_gt->qd,add_sub_cancel'->sv,add_le_add_left->tj,le_of_eq->ur,le_succ_of_le->u0,zero_add->vn,le_succ->wc
open Option renaming map_eq_some_iff->bu,bind_eq_some_iff->lh,isNone_iff_eq_none->ou,isSome_map->ox,isSome_iff_exists->pb,map_eq_none_iff->qs
open PyProof.Rows renaming seqObj->fg,get?_update_seq->j8,size_push'->mf,listUpdate_at->mh,AllBare->ow,subscriptTail_builtinR->qi,listItems_at->qp,envOfC->qy,seqEpoch_at->se,IntsAre->su,Constant_none->tu,plain_sorted->uw,entry_sorted->ux,args_sorted1->uy,kind_sorted->wb,boot_range->wm,Subscript_->wv,keyKind'->xg
open PySem renaming wpAny_bind->ac,PyData->am,wpAny_pure->ar,Shared->ay,sizeLine->bb,sizeLine_eq->bt,Program->cw,bootBuiltins->df,wpAny_holding->dh,mainGlobals->dm,compareOp->eh,starEach->eo,behindInMarks->fj,wpAny_field->fy,wpAny_setField_rec->ge,wpAny_call_entry->gf,Around->gk,wpAny_truthy_bool->gm,wpAny_seqItems->gw,foldedSetIterable->gx,wpAny_callSpecial?_slot->gy,assignEach->g7,Params->g9,binaryOp->ig,NameKind->ir,PassesOwn->iz,codeAny_builtin->i5,FuncData->ja,wpAny_getItem_str_slice->jb,Paired->ji,sysModules->jk,wpAny_mono->jl,tupleKind_room_in1->jm,letOwnedTupleGo->jn,wpAny_pyIter_list->jp,wpAny_newObj_type->jr,plainId_quiet->j3,wpAny_newList->j4,wpAny_passesOwn->j6,importedModules->kl,rawInt->kr,sliceBounds->kz,treeTable->li,swapsWith->ma,strLen_append->mi,post_val_or_str->mv,codeAny->nc,codeAny_mono->nh,wpAny_typeOf->nk,wpAny_richCompare_same_room->ny,backTo->nz,wpAny_Call_Name_kw->n6,wpAny_rule->n7,wpAny_newTuple->n8,attributeBase->pf,wpAny_comprehension_free->pi,wpAny_onRaise->pj,tupleKind->p5,noFill_tuple_add->p6,wpAny_pyNext_range_end->qe,wpAny_pyIter_rangeiter->qf,getItem->qg,concat_meets->qh,call_meets->qm,OsState->qq,wpAny_isTrue_Compare1->qt,pyIter->qx,subscripted->q9,sliceRange_one->ri,Operator->ro,codeAny_call_builtin->si,BindsTo->sj,Keyword->sr,swapsWithSole->tz,swappedStores->t5,seq_tuple_add->t6,assign->t9,wpAny_load->ud,wpAny_pyIter_range->ue,IsPart->uf,wpAny_pyIter_tuple->ug,wpAny_assign_Name->uh,valueAt->uj,call_meetsIn->ul,seqIndex_neg->um,slot_list_getitem->uo,callerA->uq,wpAny_Call_method->uz,wpAny_pyIter_enum->vi,wpAny_pyIter_slot->vj,isTrue->vp,pyNext->vq,IsRangeIter->vw,keywordEach->vy,seqIndex_of->wa,wpAny_letGo->we,builtinsNs->wg,wpAny_Name->wj,bindArgs->wp,wpAny_call->wq,typeLookup->wu,typeIs_str->ww,typeIs_int->wz,PlainAttrs->w5,typeOf->w6,getAttr?->xb
open PySem.Builtin.Dict renaming updateFrom->p8
open PySem.Builtin.List renaming listTooLong->j2,listExtendWith->nn
open PySem.Builtin.Range renaming rangeSize->kx,rangeFitsLong->nq,small->sy
open PySem.Builtin.Slice renaming slicePlaces->iy,sliceAdjust->oh
open PySem.Builtin.SmallTypes renaming ownedTupleIsFree->j5,nextOf->oo
open PySem.Builtin.Str renaming strSliceIndices->ip
open PySem.Calls renaming call_function_entry->j0,Name_function_global->n5,callWith_builtin->qk
open PySem.Heap renaming get?_push_of_some->ah,get?_push_size->ax,lt_size->bh,SameBut->cy,get?_update_self->l8,get?_update_other->qj,get?_none_of_le->qw,get?_update_ne->sx,NewExcOf->t7
open PySem.Heap.SameBut renaming update->tf
set_option Elab.async false
set_option genInjectivity false
set_option genSizeOf false
set_option compiler.extract_closed false
set_option linter.all false
set_option maxRecDepth 100000
theorem dc {p:Prop} [Decidable p] (h:decide p=true:=by rfl):p:=by simpa using h
theorem xh {c:Prop}{d:Decidable c}(h:c){α:Sort _}{a b:α}:@ite α c d a b=a:=if_pos h
theorem xk {c:Prop}{d:Decidable c}(h:¬c){α:Sort _}{a b:α}:@ite α c d a b=b:=if_neg h
theorem xl {α}{a b:α}(h:Z9 a=Z9 b):a=b:=Option.some.inj h
theorem xm {α β}{a c:α}{b d:β}(h:(a,b)=(c,d)):a=c∧b=d:=Prod.mk.inj h
theorem xn {p:Prop} [Decidable p] (h:decide p=Z7):p:=of_decide_eq_true h
theorem xo {p:Prop} [Decidable p] (h:decide p=Z6):¬p:=of_decide_eq_false h
theorem xp {p:Prop} [Decidable p] (h:p):decide p=true:=decide_eq_true h
theorem xq {p:Prop} [Decidable p] (h:¬p):decide p=false:=decide_eq_false h
theorem xr {α} [BEq α] [LawfulBEq α] {a b:α}(h:(a==b)=Z7):a=b:=beq_iff_eq.mp h
abbrev YC (x:PySem.Str):Prop:=(x==("__debug__":PySem.Str))=Z6
namespace Tp
open PySem PySem.W PyProof.Rows
def q0:Pos:=⟨0,0,0,0⟩
def an:Option Value:=Z9 (.ref 6)
def ev (p:cw):Env:={scope:=p.main.scope,locals:=mainNs,globals:=mainNs,cells:=[],code:=.ref 13,frame:=Z9 14}
def cd (p:cw):Code:=.body (behindTheImports p) (ev p)
def grow:List Obj->Nat->BT->BT
 | [],_,t=>t
 |o::l,i,t=>grow l (i+1) (t.ins i o)
def lift (s:ay):SharedT:=⟨grow s.heap.objs.toList 0 .nil,s.heap.objs.size,s.heap.life,s.gens,s.drawn,s.toks,s.os⟩
def pre (p:cw)(H:g9->Heap)(d:Drawn)(k:Nat)(w:World)(os:qq):Option (ay×Thread):=topGo li p w 11 an 12 ⟨H w.params,#[],d,k,os⟩ (topStub p)
def nU (p:cw)(H:g9->Heap)(d:Drawn)(k:Nat)(w:World)(os:qq):SharedT:=lift (((pre p H d k w os).map Prod.fst).getD ⟨H w.params,#[],d,k,os⟩)
def run (p:cw)(H:g9->Heap)(d:Drawn)(k N:Nat)(w:World)(os:qq):Option (Flow×SharedT×Code×Pos):=segRunT li p w 11 an 1 N (nU p H d k w os) (piecesOf (behindTheImports p) (ev p) (cd p) q0 [topFrame q0])
def PreEq (p:cw)(H:g9->Heap)(d:Drawn)(k:Nat):Prop:=∀(w:World) (os:qq),((H w.params).isNs dm&&(#[]:Array GenState).size==0,(H w.params).objs.size,(H w.params).nsMap dm "__annotations__",pre p H d k w os,λs c=>segRun li p w 11 an 1 1 s (blockOf (behindTheImports p) (ev p) c q0 [topFrame q0]))=(Z7,11,an,Z9 ((nU p H d k w os).abs,⟨denote li (cd p),cd p,q0,[topFrame q0]⟩),λs c=>Z9 (.next,s,c,q0))
def seen (p q:cw)(R:WRecords)(as:List Addr)(H:g9->Heap)(w:World)(s:SharedT):=(staticsOk (kl p.main.body) (H w.params) s.abs.heap&&namesBound p s.abs.heap&&gensDone s.abs&&laidKept (H w.params) s.abs.heap,openSeen q [] (kl p.main.body) (λs=>xlAt q [] s&&recOk R s) Z7 s.abs,as.map s.abs.heap.get?)
def pick {α:Type}(f:SharedT->α):Flow×SharedT×Code×Pos->Option (Code×α)
 |(.next,s,c,_)=>Z9 (c,f s)
 |_=>Z8
def iP (p q:cw)(R:WRecords)(as:List Addr)(K:g9->List (Addr×Obj))(H:g9->Heap)(d:Drawn)(k N:Nat):Prop:=∀(w:World) (os:qq),(run p H d k N w os).bind (pick (seen p q R as H w))=Z9 (cd p,Z7,openGood q [],(K w.params).map λx=>Z9 x.2)
theorem Bv (b:String->Option Builtin)(p:cw)(w:World)(n:Nat)(a:Option Value)(s:ay)(c:Code)(ps q:Pos):topRun b p w n a 2 s ⟨doneF .next,c,ps,[topFrame q]⟩=Z9 s:=by rfl
theorem left {K:g9->List (Addr×Obj)}(o:∀w,(fencedOpening li p w N).map (fun s=>(s.heap,s.gens,s.drawn,s.toks))=Z9 (boot_heap w.params,#[],boot_drawn,boot_toks))(le:12+(1+(M+2))<=N)
  (h1:PreEq p boot_heap boot_drawn boot_toks) (h2:iP p q R as K boot_heap boot_drawn boot_toks M):LeftO p q [] (λs=>xlAt q [] s&&recOk R s) (λs=>as.map s.heap.get?) (λw=>(K w.params).map λx=>Z9 x.2) N:=λw=>by
 obtain⟨⟨h,gs,d,k,os⟩,e,e'⟩:=bu.mp (o w);have e1:=xm e';have e2:=xm e1.2;have e3:=xm e2.2;obtain rfl:h=boot_heap w.params:=e1.1;obtain rfl:gs=#[]:=e2.1;obtain rfl:d=boot_drawn:=e3.1;obtain rfl:k=boot_toks:=e3.2;have a:=xm (h1 w os);have a2:=xm a.2;have a3:=xm a2.2;have a4:=xm a3.2;obtain⟨⟨f,s,c,ps⟩,r1,r2⟩:=lh.mp (h2 w os);cases f with
 |next=>
  have b:=xm (xl r2);have b1:=xm b.2;have b2:=xm b1.2;obtain rfl:c=cd p:=b.1;have t1:topRun li p w 11 an (M+2) (nU p boot_heap boot_drawn boot_toks w os).abs (restOf (behindTheImports p++[]) (ev p) (cd p) q0 [topFrame q0])=Z9 s.abs:=piece_app (segRun_of r1) (Bv li p w 11 an s.abs (cd p) ps q0);rw[ce]at t1;have t4:=topRun_mono (N-(12+(1+(M+2)))) _ _ _ _ (go_top a4.1 (piece_block (congrFun (congrFun a4.2 (nU p boot_heap boot_drawn boot_toks w os).abs) (cd p)) t1));rw[sv le]at t4;have t:topFrom li p w N ⟨boot_heap w.params,#[],boot_drawn,boot_toks,os⟩=Z9 s.abs:=by unfold topFrom;rw[a.1,a2.1,a3.1,t4];show(match staticsOk (kl p.main.body) (boot_heap w.params) s.abs.heap&&namesBound p s.abs.heap&&gensDone s.abs&&laidKept (boot_heap w.params) s.abs.heap with|true=>Z9 s.abs|false=>Z8)=_;rw[b1.1]
  unfold openEnds;rw[e];show(topFrom li p w N _).map _=_;rw[t];exact congrArg Z9 (Prod.ext b2.1 b2.2)
 |_=>cases r2
theorem pre_r:PreEq=PreEq:=rfl
def Bw (p q:cw)(R:WRecords)(H:g9->Heap)(w:World)(s:SharedT):=(staticsOk (kl p.main.body) (H w.params) s.abs.heap&&namesBound p s.abs.heap&&gensDone s.abs&&laidKept (H w.params) s.abs.heap,openSeen q [] (kl p.main.body) (λs=>xlAt q [] s&&recOk R s) Z7 s.abs)
def RunA (p q:cw)(R:WRecords)(H:g9->Heap)(d:Drawn)(k N:Nat):Prop:=∀(w:World) (os:qq),(run p H d k N w os).bind (pick (Bw p q R H w))=Z9 (cd p,Z7,openGood q [])
def RunB (p:cw)(as:List Addr)(K:g9->List (Addr×Obj))(H:g9->Heap)(d:Drawn)(k N:Nat):Prop:=∀(w:World) (os:qq),(run p H d k N w os).bind (pick λs=>as.map s.abs.heap.get?)=Z9 (cd p,(K w.params).map λx=>Z9 x.2)
theorem Ni {e h:Type}{f:SharedT->e}{g:SharedT->h}{x:Option (Flow×SharedT×Code×Pos)}{a:e}{b:h}(d:x.bind (pick f)=Z9 (c,a))(j:x.bind (pick g)=Z9 (c,b)):x.bind (pick λs=>(f s,g s))=Z9 (c,a,b):=by
 cases x with
 |none=>cases d
 |some y=>
  obtain⟨fl,s,k,ps⟩:=y;cases fl with
  |next=>have i:=xm (xl d);show Z9 (k,f s,g s)=_;rw[i.1,i.2,(xm (xl j)).2]
  |_=>cases d
theorem qU {K:g9->List (Addr×Obj)}(c:RunA p q R H d k N)(f:RunB p as K H d k N):iP p q R as K H d k N:=λw os=>by
 have h:=Ni (c w os) (f w os);cases e:run p H d k N w os with
 |none=>rw[e]at h;cases h
 |some y=>
  rw[e]at h;obtain⟨fl,s,g,ps⟩:=y;cases fl with
  |next=>have a:=xm (xl h);have b:=xm a.2;show Z9 (g,(Bw p q R H w s).1,(Bw p q R H w s).2,as.map s.abs.heap.get?)=_;rw[a.1,b.2,b.1]
  |_=>cases h
theorem runA_r:RunA=RunA:=rfl
theorem runB_r:RunB=RunB:=rfl
end Tp
lay_quick Tp.PreEq Tp.RunA Tp.RunB
name_quick tpre for Tp.PreEq by Tp.pre_r
name_quick truna for Tp.RunA by Tp.runA_r
name_quick trunb for Tp.RunB by Tp.runB_r
namespace Tp
open PySem PySem.W PyProof.Rows
theorem rn_r:run=run:=rfl
end Tp
name_quick trn for Tp.run by Tp.rn_r
namespace Tp
open PySem PySem.W PyProof.Rows
def obj (p:cw)(M:Nat)(P:g9)(a:Addr):Obj:=((PySem.W.Fast.trn p boot_heap boot_drawn boot_toks M ⟨λ_ _=>0,P⟩ default).map λx=>(x.2.1.tree.get a).getD default).getD default
def Ko (p:cw)(M:Nat)(as:List Addr)(P:g9):Frag:=as.map λa=>(a,obj p M P a)
theorem vY (p:cw)(M:Nat)(a:List Addr)(P:g9):a=(Ko p M a P).map (·.1):=by unfold Ko;rw[dg];exact(wf _).symm
def said (l:OpenLaw):Bool:=l.wellSaid
theorem said_r:said=said:=rfl
theorem holds {K:g9->Frag}(a:said l=Z7)(b:∀P,as=(K P).map (·.1))(c:opening l.row.prog=plainProg l.row.prog.main.scope.names)(g:Nat.ble 600 N=Z7)(h:∀s,fenceModules? l.row.prog s=Z9 s)(le:12+(1+(M+2))<=N)
  (i:PreEq l.row.prog boot_heap boot_drawn boot_toks) (j:iP l.row.prog q l.row.records as K boot_heap boot_drawn boot_toks M) (a1:defOf q l.row.name=Z9 (d,[])) (a2:l.row.prog.theDef l.row.name=Z9 (d.params,d.body,d.scope)) (a3:kwWritten? d.params.kwonlyargs d.params.kw_defaults=Z9 []) (a4:(!l.row.writes||l.row.records.isEmpty)=Z7)
  (k:(chainsOk q&&opensWell l.row.prog&&(frees l.row.toRowW&&l.row.within.isEmpty))=Z7) (m:l.row.prog.bare) (n:l.row.toRowW.promised) (call:WalkO q [] (XL q []) (InK K) l.row.toRowW d [] λf o=>PySem.call f o):l.Holds:=
 holds_law a λz=>holds_open (left (boot_open c g h) le i j) (InK.of b) InK.keeps (λs e=>xl_of s (az.mp e).1) XL.keeps a1 a2 a3 (λs e=>recFacts_of (az.mp e).2) a4 z k m n call
end Tp
lay_quick Tp.said
name_quick tsaid for Tp.said by Tp.said_r
namespace Mk
open PySem PySem.Spec PyProof.Rows
abbrev lG:cw:=PySem.Challenge.rw_likebook_k65_whole_claims_settled.row.prog
def vZ:cw:=W.view lG [1,2,3,4,5,7,8,9,11,12,13,14,16,17,18,19,21,22,24,25,26,27,28,30,31,32,33,34,35,36,37,38,39,41,42,43,44,45,46,47,48,49,50,51,52,53,54,55,56,57]
def zM:List Addr:=d8 357
def wB:g9->Z5:=Tp.Ko lG 100000 zM
theorem Nj:Tp.PreEq lG W.boot_heap W.boot_drawn W.boot_toks:=by
 intro w os
 kernel_rfl
theorem BA:Tp.RunA lG vZ PySem.Challenge.rw_likebook_k65_whole_claims_settled.row.records W.boot_heap W.boot_drawn W.boot_toks 100000:=by
 rw[PySem.W.Fast.truna_eq];intro w os
 kernel_rfl
theorem BB:Tp.RunB lG zM wB W.boot_heap W.boot_drawn W.boot_toks 100000:=by
 rw[PySem.W.Fast.trunb_eq];intro w os
 kernel_rfl
theorem Nk:Tp.iP lG vZ PySem.Challenge.rw_likebook_k65_whole_claims_settled.row.records zM wB W.boot_heap W.boot_drawn W.boot_toks 100000:=Tp.qU BA BB
end Mk
namespace L2
open PySem PySem.Spec PyProof.Rows
abbrev Key:=Sum Int Str
def uB:Key->Value->Bool
 |.inl k,v=>Value.isInt k v
 |.inr x,v=>Value.isStrOf x v
def BD (w:World):Key->Int
 |.inl k=>hashInt k
 |.inr x=>hashStr w x
theorem mX:∀{k:Key} {v:Value},uB k v=Z7->(∃i t,k=Sum.inl i/\v=Value.int i t)\/(∃x t,k=Sum.inr x/\v=Value.str x t)
 |.inl i,v,h=>by obtain⟨t,e⟩:=Value.isInt_shape h;exact .inl ⟨i,t,rfl,e⟩
 |.inr x,v,h=>by obtain⟨t,e⟩:=Value.isStrOf_shape h;exact .inr ⟨x,t,rfl,e⟩
theorem Nl (i:Int)(t:Tok):uB (.inl i) (.int i t)=true:=by simp[uB,Value.isInt]
theorem Nm (x:Str)(t:Tok):uB (.inr x) (.str x t)=true:=by simp[uB,Value.isStrOf]
theorem Nn (a b:Int):decide ((Sum.inl a:Key)=Sum.inl b)=(a==b):=by grind
theorem Np (a b:Str):decide ((Sum.inr a:Key)=Sum.inr b)=decide (a=b):=by grind
theorem Nq (a:Int)(b:Str):decide ((Sum.inl a:Key)=Sum.inr b)=false:=xq (λq=>nomatch q)
theorem Nr (a:Str)(b:Int):decide ((Sum.inr a:Key)=Sum.inl b)=false:=xq (λq=>nomatch q)
def eM (prog:cw)(w:World):PySem.KeyKind prog w Key where
 is:=uB
 hash:=BD w
 inj:=λv a b ha hb=>by
  rcases mX ha with⟨i,t,rfl,rfl⟩|⟨x,t,rfl,rfl⟩
  .rcases mX hb with⟨j,u,rfl,e⟩|⟨y,u,rfl,e⟩
   .injection e with e1 _;rw[e1]
   .exact nomatch e
  .rcases mX hb with⟨j,u,rfl,e⟩|⟨y,u,rfl,e⟩
   .exact nomatch e
   .injection e with e1 _;rw[e1]
 byValue:=λk v h=>by rcases mX h with⟨i,t,rfl,rfl⟩|⟨x,t,rfl,rfl⟩<;>rfl
 pyHash:=λhv h=>by
  rcases mX hv with⟨i,t,rfl,rfl⟩|⟨x,t,rfl,rfl⟩
  .exact wpAny_pyHash_int h
  .exact wpAny_pyHash_str h
 eqBool:=λhu hv h=>by
  rcases mX hu with⟨i,t,rfl,rfl⟩|⟨x,t,rfl,rfl⟩
  .rcases mX hv with⟨j,u,rfl,rfl⟩|⟨y,u,rfl,rfl⟩
   .rw[Nn]at h;exact wpAny_eqBool_int h
   .rw[Nq]at h;exact SeqAt.EqAt.int_str i t y u _ _ _ _ h
  .rcases mX hv with⟨j,u,rfl,rfl⟩|⟨y,u,rfl,rfl⟩
   .rw[Nr]at h;exact SeqAt.EqAt.str_int x t j u _ _ _ _ h
   .rw[Np]at h;exact wpAny_eqBool_str h
 «strs»:=λk x t v h=>by
  rcases mX h with⟨i,u,rfl,e⟩|⟨y,u,rfl,e⟩
  .exact nomatch e
  .injection e with e1 _;subst e1;cases v<;>rfl
theorem Nt (prog:cw)(w:World)(i:Int)(t:Tok):(eM prog w).is (.inl i) (.int i t)=true:=Nl i t
theorem Nu (prog:cw)(w:World)(x:Str)(t:Tok):(eM prog w).is (.inr x) (.str x t)=true:=Nm x t
inductive V where
 |bG|bl (b:Bool)|int (i:Int)|str (x:Str)|ref (a:Addr)|ty (n:String)
 deriving DecidableEq
def RelV:V->Value->Prop
 |.bG,u=>u=Value.none
 |.bl b,u=>u=Value.bool b
 |.int i,u=>∃t,u=Value.int i t
 |.str x,u=>∃t,u=Value.str x t
 |.ref a,u=>u=ZU a
 |.ty n,u=>u=Value.type n
abbrev Vals:List V->List Value->Prop:=ji RelV
theorem Vals.length (r:Vals a b):a.length=b.length:=Paired.length r
theorem Vals.get:∀{a:List V} {b:List Value} {i:Nat} {x:V},Vals a b->a[i]?=Z9 x->∃u,b[i]?=Z9 u/\RelV x u
 |_,_,_,_,.nil,e=>by simp at e
 |_,_,0,_,.cons r _,e=>by simp at e;subst e;exact⟨_,rfl,r⟩
 |_,_,i+1,x,.cons _ t,e=>by obtain⟨u,c,d⟩:=Vals.get t (by simpa using e);exact⟨u,by simpa using c,d⟩
theorem Vals.set (r:RelV x u):∀{a:List V} {b:List Value} i,Vals a b->Vals (a.set i x) (b.set i u)
 |_,_,_,.nil=>.nil
 |_,_,0,.cons _ t=>.cons r t
 |_,_,i+1,.cons q t=>.cons q (Vals.set r i t)
theorem Vals.append:∀{a b:List V} {c ws:List Value},Vals a c->Vals b ws->Vals (a++b) (c++ws)
 |_,_,_,_,.nil,s=>s
 |_,_,_,_,.cons r t,s=>.cons r (Vals.append t s)
theorem Vals.take:∀{a:List V} {b:List Value} n,Vals a b->Vals (a.take n) (b.take n)
 |_,_,0,_=>.nil
 |_,_,_+1,.nil=>.nil
 |_,_,n+1,.cons r t=>.cons r (Vals.take n t)
theorem Vals.drop:∀{a:List V} {b:List Value} n,Vals a b->Vals (a.drop n) (b.drop n)
 |_,_,0,r=>r
 |_,_,_+1,.nil=>.nil
 |_,_,n+1,.cons _ t=>Vals.drop n t
def cY:Option V->Option Value->Prop
 |some v,Z9 u=>RelV v u
 |none,Z8=>True
 |_,_=>False
def KV {κ:Type}:List (κ×V)->List (κ×Value)->Prop:=ji λ(p:κ×V) (q:κ×Value)=>p.1=q.1/\RelV p.2 q.2
def kV:Key->V
 |.inl i=>.int i
 |.inr x=>.str x
inductive HO where
 |lst (xs:List V)
 |tup (xs:List V)
 |dK (kvs:List (Key×V))|dT (kvs:List (List Key×V))
 |set (S:Int->Bool) (n:Nat)
 |ins (C dx:Addr) (fs:List (Str×V))
 |own (x:Addr)
 |xd (fs:List (Str×V))
 |frz (o:Obj) (u:HO)
 |pN (ps:Array Value)
 |ext (φ:Heap->Prop)
abbrev Hp:=Addr->Option HO
def upd (H:Hp)(a:Addr)(o:HO):Hp:=λb=>if b=a then Z9 o else H b
theorem aO:upd H a o a=Z9 o:=by unfold upd;rw[xh rfl]
theorem aA (h:b≠a):upd H a o b=H b:=by unfold upd;rw[xk h]
theorem Nv {H:Hp}(h:H a=Z9 o)(c:H b=Z9 u)(d:o≠u):a≠b:=by grind
theorem bY {H:Hp}(h:H a=Z9 o)(c:H b=Z8):a≠b:=by intro e;subst e;rw[h]at c;cases c
def TupN (h:Heap)(a:Addr)(l:Array Value):Prop:=∃n,h.get? a=Z9 {cls:=.type "tuple",data:=.seq l n}
theorem TupN.tup {h:Heap}{a:Addr}{l:Array Value}(x:TupN h a l):IsTup h a l:=let⟨n,q⟩:=x;⟨_,q,rfl,n,rfl⟩
theorem TupN.new (h:Heap)(l:Array Value):TupN (h.push {cls:=.type "tuple",data:=.seq l}) h.objs.size l:=⟨_,ax _ rfl⟩
def Nw (h:Heap)(a:Addr)(l:Array Value):Prop:=∃o n,h.get? a=Z9 o/\o.cls=.type "tuple"/\o.dict=Z8/\o.data=.seq l n
section
variable (P:cw)(w:World)
def z0z (H:Hp)(h:Heap)(a:Addr):HO->Prop
 |.lst xs=>xs.length<=bb/\∃(dE:List Value) (n:Nat),Vals xs dE/\h.get? a=Z9 {cls:=.type "list",data:=.seq dE.toArray n}
 |.tup xs=>xs.length<=bb/\∃dE:List Value,Vals xs dE/\TupN h a dE.toArray
 |.dK kvs=>kvs.length<=bb/\(a==jk)=Z6/\∃vs,KV kvs vs/\h.DictOf (eM P w) a vs
 |.dT kvs=>kvs.length<=bb/\(a==jk)=Z6/\∃xs:List (List Key×Addr×Value),
  ji (λ(p:List Key×V) (q:List Key×Addr×Value)=>p.1=q.1/\H q.2.1=Z9 (.tup (p.1.map kV))/\RelV p.2 q.2.2) kvs xs/\
  ∃o es ep,h.get? a=Z9 o/\o.ExactDict/\o.data=.dict es ep/\es.toList=xs.map (entryOfKey (p5 (eM P w)))/\(xs.map (·.1)).Nodup
 |.set S n=>h.SetOf (intKind P w) a S n
 |.ins C dx fs=>H dx=Z9 (.own a)/\fs.length<=1000/\dx≠a/\h.get? a=Z9 (W.instObj C dx)/\∃mA,h.Ns1 dx mA/\(∀f,cY (fs.lookup f) (mA f))/\PySem.Within mA (fs.map (·.1))
 |.own _=>∃o,h.get? a=Z9 o
 |.xd fs=>∃mA,h.Ns1 a mA/\∀f,cY (fs.lookup f) (mA f)
 |.frz o u=>h.get? a=Z9 o/\z0z H h a u
 |.pN ps=>h.get? a=Z9 {cls:=.none,data:=.fields ps}
 |.ext φ=>φ h/\(∃o,h.get? a=Z9 o)/\∀h1 h2:Heap,φ h1->(∀o,h1.get? a=Z9 o->h2.get? a=Z9 o)->φ h2
def HOk (H:Hp)(h:Heap):Prop:=∀a o,H a=Z9 o->z0z P w H h a o
end
section
variable {P:cw}{w:World}{H H':Hp}{h h':Heap}{a:Addr}{o:HO}
theorem z0z.lt (x:z0z P w H h a o):a<h.objs.size:=by
 cases o with
 |lst c=>obtain⟨_,_,_,_,e⟩:=x;exact bh e
 |tup c=>obtain⟨_,_,_,_,q⟩:=x;exact bh q
 |dK b=>obtain⟨_,_,_,_,o,_,_,e,_⟩:=x;exact bh e
 |dT b=>obtain⟨_,_,_,_,o,_,_,e,_⟩:=x;exact bh e
 |set S n=>obtain⟨o,_,_,_,e,_⟩:=x;exact bh e
 |ins C d fs=>obtain⟨_,_,_,e,_⟩:=x;exact bh e
 |own y=>obtain⟨_,e⟩:=x;exact bh e
 |xd fs=>obtain⟨_,⟨_,_,_,e,_⟩,_⟩:=x;exact bh e
 |frz f u=>obtain⟨e,_⟩:=x;exact bh e
 |pN ps=>exact bh x
 |ext g=>obtain⟨_,⟨_,e⟩,_⟩:=x;exact bh e
theorem Paired.qV {e g:Type}{F G:e->g->Prop}:∀{c:List e} {d:List g},ji F c d->(∀a b,F a b->G a b)->ji G c d
 |_,_,.nil,_=>.nil
 |_,_,.cons r t,f=>.cons (f _ _ r) (Paired.qV t f)
theorem z0z.stay (x:z0z P w H h a o)(k:∀b u,(b=a\/H b=Z9 (.own a))->h.get? b=Z9 u->h'.get? b=Z9 u)
  (ho:∀b,H b=Z9 (.own a)->H' b=Z9 (.own a)) (ht:∀b g,H b=Z9 (.tup g)->H' b=Z9 (.tup g)):z0z P w H' h' a o:=by
 induction o with
 |lst g=>obtain⟨z,i,n,r,e⟩:=x;exact⟨z,i,n,r,k _ _ (.inl rfl) e⟩
 |tup g=>obtain⟨z,l,r,n,q⟩:=x;exact⟨z,l,r,n,k _ _ (.inl rfl) q⟩
 |dK j=>obtain⟨z,y,s,r,f,es,ep,e,c⟩:=x;exact⟨z,y,s,r,f,es,ep,k _ _ (.inl rfl) e,c⟩
 |dT j=>obtain⟨z,y,g,r,f,es,ep,e,c⟩:=x;exact⟨z,y,g,Paired.qV r λp q z=>⟨z.1,ht _ _ z.2.1,z.2.2⟩,f,es,ep,k _ _ (.inl rfl) e,c⟩
 |set S n=>obtain⟨f,es,ep,t,e,c⟩:=x;exact⟨f,es,ep,t,k _ _ (.inl rfl) e,c⟩
 |ins C B fs=>obtain⟨d,z,ne,e,m,⟨od,es,ep,v,c⟩,r⟩:=x;exact⟨ho _ d,z,ne,k _ _ (.inl rfl) e,m,⟨od,es,ep,k _ _ (.inr d) v,c⟩,r⟩
 |own y=>obtain⟨f,e⟩:=x;exact⟨f,k _ _ (.inl rfl) e⟩
 |xd fs=>obtain⟨m,⟨od,es,ep,e,c⟩,r⟩:=x;exact⟨m,⟨od,es,ep,k _ _ (.inl rfl) e,c⟩,r⟩
 |frz f u A=>obtain⟨e,q⟩:=x;exact⟨k _ _ (.inl rfl) e,A q⟩
 |pN ps=>have e:h.get? a=Z9 {cls:=.none,data:=.fields ps}:=x;exact k a _ (.inl rfl) e
 |ext D=>obtain⟨p,⟨o,e⟩,st⟩:=x;exact⟨st _ _ p λo q=>k _ _ (.inl rfl) q,⟨o,k _ _ (.inl rfl) e⟩,st⟩
theorem HOk.lt (x:HOk P w H h)(e:H a=Z9 o):a<h.objs.size:=(x a o e).lt
theorem HOk.fresh (x:HOk P w H h)(e:h.objs.size<=a):H a=none:=by
 cases q:H a with
 |none=>rfl
 |some u=>exact absurd (cf (x.lt q) e) (cu _)
theorem HOk.kept (x:HOk P w H h)(k:∀b u,h.get? b=Z9 u->h'.get? b=Z9 u):HOk P w H h':=λa o e=>(x a o e).stay (λb u _ q=>k b u q) (λ_ q=>q) λ_ _ q=>q
theorem HOk.laid (x:HOk P w H h)(k:∀b u,h.get? b=Z9 u->h'.get? b=Z9 u)(d:h.objs.size<=a)(new:z0z P w (upd H a o) h' a o):HOk P w (upd H a o) h':=λb u e=>by
 have hn:=x.fresh d;by_cases hb:b=a
 .subst hb;rw[aO]at e;cases e;exact new
 .rw[aA hb]at e;exact(x b u e).stay (λc v _ q=>k c v q) (λc q=>by rw[aA (bY q hn)];exact q) λc f q=>by rw[aA (bY q hn)];exact q
end
def Rd (H:Hp)(a:Addr)(u:HO):Prop:=H a=Z9 u\/∃o,H a=Z9 (.frz o u)
theorem Rd.ok (r:Rd H a u)(x:HOk P w H h):z0z P w H h a u:=by
 rcases r with r|⟨o,r⟩
 .exact x a u r
 .obtain⟨_,q⟩:=x a _ r;exact q
def Mut:Option HO->Prop
 |some (.lst _)=>True
 |some (.dK _)=>True
 |some (.dT _)=>True
 |some (.set _ _)=>True
 |some (.ins _ _ _)=>True
 |some (.ext _)=>True
 |_=>False
section
variable {P:cw}{w:World}{H:Hp}{h h':Heap}{x e:Addr}{o':HO}
theorem HOk.write (ok:HOk P w H h)(mu:Mut (H x))(i:e=x\/H e=Z9 (.own x))(k:∀b u,b≠e->h.get? b=Z9 u->h'.get? b=Z9 u)(g:∃u,h'.get? e=Z9 u)
  (new:z0z P w (upd H x o') h' x o'):HOk P w (upd H x o') h':=λb u q=>by
 have d:∀c y,H c=Z9 (.own y)->c≠x:=λc y r z=>by subst z;rw[r]at mu;exact mu
 by_cases hb:b=x
 .subst hb;rw[aO]at q;cases q;exact new
 .rw[aA hb]at q;by_cases a:b=e
  .have j:H b=Z9 (.own x):=by
    rcases i with z|z
    .exact absurd (a.trans z) hb
    .rw[a];exact z
   rw[q]at j;cases j;obtain⟨v,m⟩:=g;exact⟨v,by rw[a];exact m⟩
  .refine(ok b u q).stay (λc v f r=>k c v ?_ r) (λc r=>by rw[aA (d c b r)];exact r) λc l r=>by rw[aA ((λc l r z=>by subst z;rw[r]at mu;exact mu) c l r)];exact r
   rcases f with rfl|f
   .exact a
   .rintro rfl
    rcases i with z|z
    .exact d c b f z
    .rw[f]at z;cases z;exact hb rfl
end
structure Un (fs ex:List Addr)(H H':Hp)(h h':Heap):Prop where
 keep:∀b o,h.get? b=Z9 o->H b=Z8->b∉fs->b∉ex->h'.get? b=Z9 o
 slot:∀b o,h.get? b=Z9 o->H b=Z8->b∈fs->b∉ex->∃sl,h'.get? b=Z9 {o with slots:=sl}
 free:∀b o,h.get? b=Z9 o->H b=Z8->b∉ex->H' b=Z8
 there:∀b o,h.get? b=Z9 o->b∉ex->∃o',h'.get? b=Z9 o'
 eZ:∀b xs,H b=Z9 (.tup xs)->H' b=Z9 (.tup xs)
 eA:∀b o u,H b=Z9 (.frz o u)->H' b=Z9 (.frz o u)
 fA:∀b ps,H b=Z9 (.pN ps)->∃more,H' b=Z9 (.pN (ps++more))
section
variable {fs Ny ex Yd:List Addr}{H H1 H2:Hp}{h h1 h2 h':Heap}{a x e:Addr}{o:HO}
theorem Un.any (u:Un fs ex H H1 h h1)(q:h.get? b=Z9 ob)(n:H b=Z8)(hx:b∉ex):∃sl,h1.get? b=Z9 {ob with slots:=sl}:=by
 by_cases hb:b∈fs
 .exact u.slot b ob q n hb hx
 .exact⟨ob.slots,u.keep b ob q n hb hx⟩
theorem Un.kept (k:∀b u,h.get? b=Z9 u->h'.get? b=Z9 u):Un fs ex H H h h':=⟨λb a q _ _ _=>k b a q,λb a q _ _ _=>⟨a.slots,k b a q⟩,λ_ _ _ n _=>n,λb a q _=>⟨a,k b a q⟩,λ_ _ q=>q,λ_ _ _ q=>q,λ_ ps q=>⟨#[],by rw[q];simp⟩⟩
theorem Un.refl:Un fs ex H H h h:=Un.kept λ_ _ q=>q
theorem Un.laid (k:∀b u,h.get? b=Z9 u->h'.get? b=Z9 u)(c:h.objs.size<=a)(hn:H a=Z8):Un fs ex H (upd H a o) h h' where
 keep:=λb u q _ _ _=>k b u q
 slot:=λb u q _ _ _=>⟨u.slots,k b u q⟩
 free:=λb u q n _=>by rw[aA (cx (cf (bh q) c))];exact n
 there:=λb u q _=>⟨u,k b u q⟩
 eZ:=λb d q=>by rw[aA (bY q hn)];exact q
 eA:=λb u d q=>by rw[aA (bY q hn)];exact q
 fA:=λb ps q=>⟨#[],by rw[aA (bY q hn),q];simp⟩
theorem Un.write (mu:Mut (H x))(d:e=x\/H e=Z9 (.own x))(k:∀b u,b≠e->h.get? b=Z9 u->h'.get? b=Z9 u)(c:∃u,h'.get? e=Z9 u):Un fs ex H (upd H x o) h h':=by
 have hx:∀b,H b=Z8->b≠x:=λb n z=>by subst z;rw[n]at mu;exact mu
 have hb:∀b,H b=Z8->b≠e:=λb n z=>by
  subst z;rcases d with r|r
  .exact hx b n r
  .rw[n]at r;cases r
 have hm:∀b u,H b=Z9 u->¬Mut (Z9 u)->b≠x:=λb u q nm z=>by subst z;rw[q]at mu;exact nm mu
 refine⟨λb u q n _ _=>k b u (hb b n) q,λb u q n _ _=>⟨u.slots,k b u (hb b n) q⟩,λb u q n _=>by rw[aA (hx b n)];exact n,λb u q _=>?_,λb f q=>by rw[aA (hm b _ q λz=>z)];exact q,λb u f q=>by rw[aA (hm b _ q λz=>z)];exact q,λb ps q=>⟨#[],by rw[aA (hm b _ q λz=>z),q];simp⟩⟩;by_cases a:b=e
 .subst a;exact c
 .exact⟨u,k b u a q⟩
end
def BE (h:Heap)(H:Hp):List Addr:=(d8 h.objs.size).filter λa=>(H a).isSome
def jB (h:Heap)(H:Hp):Heap:=W.hideAll h (BE h H)
theorem Nz (h:Heap)(H:Hp):(jB h H).objs.size=h.objs.size:=W.hideAll_size _ _
theorem NA (e:h.get? b=Z9 o)(n:H b=Z8):(jB h H).get? b=Z9 o:=W.hideAll_get _ e λhm=>by have q:=(fh.mp hm).2;rw[n]at q;simp at q
theorem NB (e:(jB h H).get? b=Z9 o):h.get? b=Z9 o/\H b=none:=by
 have a:=W.of_hideAll (BE h H) e;refine⟨a,?_⟩;cases q:H b with
 |none=>rfl
 |some x=>have z:(jB h H).get? b=none:=W.hideAll_none (BE h H) (fh.mpr ⟨lj.mpr (bh a),by simp[q]⟩);rw[z]at e;cases e
def wC (g h:Heap)(L:Addr):List (Addr×Obj):=(d8 h.objs.size).filterMap λa=>if a=L\/(g.get? a).isSome=Z7 then Z8 else(h.get? a).map λo=>(a,o)
theorem BF (c:a≠L)(d:g.get? a=Z8)(b:h.get? a=Z9 o):(a,o)∈wC g h L:=ko.mpr ⟨a,lj.mpr (bh b),by simp[c,d,b]⟩
theorem NC (a:p∈wC g h L):p.1≠L/\g.get? p.1=Z8/\h.get? p.1=Z9 p.2:=by
 obtain⟨b,_,e⟩:=ko.mp a;split at e
 .cases e
 .rename_i hn;cases q:h.get? b with
  |none=>rw[q]at e;simp at e
  |some u=>
   rw[q]at e;simp at e;subst e;refine⟨λz=>hn (.inl z),?_,q⟩;cases r:g.get? b with
   |none=>rfl
   |some v=>exact(hn (.inr (by simp[r]))).elim
def rest (g h:Heap)(L d:Addr):List (Addr×Obj):=(wC g h L).filter λp=>decide (p.1≠d)
theorem G6:∀p∈rest g h L d,p.1≠d:=λp a=>xn (fh.mp a).2
theorem ND (b:a≠L)(c:g.get? a=Z8)(e:h.get? a=Z9 o)(f:a≠d):(a,o)∈rest g h L d:=fh.mpr ⟨BF b c e,xp f⟩
theorem G7:News g L h (wC g h L):=λp d=>let⟨a,b,c⟩:=NC d;⟨c,a,b⟩
theorem nV (b:d≠L)(c:g.get? d=Z8)(e:h.get? d=Z9 o):News g L h ((d,o)::rest g h L d):=λp a=>by
 rcases ao.mp a with rfl|a
 .exact⟨e,b,c⟩
 .exact G7 p (fh.mp a).1
theorem z76 (k:∀b o,g.get? b=Z9 o->h.get? b=Z9 o)(F:Fr g L a m)(N:News g L a (rest g h L d)):
  ∀b o,b≠L->b≠d->h.get? b=Z9 o->a.get? b=Z9 o:=λb o c f e=>by
 cases q:g.get? b with
 |some u=>have:=k b u q;rw[e]at this;cases this;exact F.keep b _ q
 |none=>exact(N (b,o) (ND c q e f)).1
structure Mod (K:Z5)(mg:Str->Option Value)(base:Heap):Prop where
 BH:K.In base
 glob:base.Ns dm mg
 blt:∃mb,base.Ns wg mb/\∀x:Str,x≠"__name__"->mb x=df x
 nolimit:base.NoLimit
structure Cx where
 prog:cw
 w:World
 K:Z5
 mg:Str->Option Value
 base:Heap
 A:gk
 N:List Str
 bH:ay
 lH:Hp
 env:Env
 outer:List Env
 stack:List Env
 ex:List Addr
 fn:Str->Bool
 calm:Bool
 pn:List (Addr×Obj)
 xe:Value->ay->Prop
 fx:List (Str×Value):=[]
def frs (l:List Env):List Addr:=l.filterMap (·.frame)
abbrev Cx.fs (X:Cx):List Addr:=frs X.outer
def Vis (sc:Scope)(x:Str):Prop:=sc.names.lookup x=Z9 .local\/sc.names.lookup x=Z9 .cell\/sc.names.lookup x=Z9 .free
def Loc (sc:Scope)(x:Str):Prop:=sc.names.lookup x=Z9 .local\/sc.names.lookup x=Z9 .cell
def Look (env:Env)(h:Heap)(m:Str->Option Value)(x:Str)(u:Value):Prop:=(env.kindOf x=Z9 .local/\m x=Z9 u)\/((env.kindOf x=Z9 .cell\/env.kindOf x=Z9 .free)/\∃c,env.cells.lookup x=Z9 c/\h.IsCell c (Z9 u))
def Sto (X:Cx)(x:Str):Prop:=(X.fn x=Z7\/X.env.scope.names.lookup x=Z9 .local)/\∀u,(x,u)∉X.fx
structure Cx.Ok (X:Cx):Prop where
 mod:Mod X.K X.mg X.base
 kind:X.env.scope.kind=.function
 glob:X.env.globals=dm
 blt:X.env.builtins=wg
 above:X.bH.heap.objs.size<=X.env.locals
 inj:∀x y c,X.env.cells.lookup x=Z9 c->X.env.cells.lookup y=Z9 c->x=y
 has:∀x,(X.env.kindOf x=Z9 .cell\/X.env.kindOf x=Z9 .free)->∃c,X.env.cells.lookup x=Z9 c
 uC:∀x c,X.fn x=Z7->X.env.cells.lookup x=Z9 c->X.bH.heap.objs.size<=c
 hd:X.calm=Z7->X.A.handled=Z8
 frames:X.A.frames=Z9 X.stack
 wD:X.stack=X.outer\/(X.stack=X.env::X.outer/\X.env.frame=Z9 X.env.locals)
 wF:∀b∈X.ex,b≠X.env.locals/\∀x c,X.env.cells.lookup x=Z9 c->c≠b
 bs:∀b o,X.base.get? b=Z9 o->X.bH.heap.get? b=Z9 o/\X.lH b=Z8
 kK:X.base.objs.size<=X.bH.heap.objs.size
 jC:∀b o,X.base.get? b=Z9 o->b∉X.ex
 jD:∀b∈X.ex,b∉X.fs
 eB:X.bH.heap.FunFrames X.base X.outer
 qW:∀b∈X.fs,X.lH b=Z8
 BJ:∀x u,(x,u)∈X.fx->X.env.scope.names.lookup x=Z9 .local
structure Inv (X:Cx)(pins:List (Addr×Obj))(σ:List (Option V))(H:Hp)(s:ay):Prop where
 ok:X.Ok
 os:s.os=X.bH.os
 bare:ow s.gens
 base:Un X.fs X.ex X.lH H X.bH.heap s.heap
 loc:∃m,s.heap.Ns X.env.locals m/\∀(i:Nat) (x:Str) (v:V),X.N[i]?=Z9 x->σ[i]?=Z9 (Z9 v)->Vis X.env.scope x->∃u,RelV v u/\Look X.env s.heap m x u
 cell:∀x c,X.env.cells.lookup x=Z9 c->∃v,s.heap.IsCell c v
 free:H X.env.locals=Z8
 bQ:∀x c,X.env.cells.lookup x=Z9 c->H c=Z8
 pin:∀p∈X.pn++pins,s.heap.get? p.1=Z9 p.2/\H p.1=Z8/\p.1≠X.env.locals/\p.1∉X.fs/\∀v,p.2.data≠.cell v
 hok:HOk X.prog X.w H s.heap
 len:σ.length=X.N.length
 fx:∀x u,(x,u)∈X.fx->∃m,s.heap.Ns X.env.locals m/\m x=Z9 u
section
variable {X:Cx}{pins:List (Addr×Obj)}{σ:List (Option V)}{H H':Hp}{s:ay}{h':Heap}
theorem Cx.Ok.BK (ok:X.Ok)(e:X.base.get? b=Z9 o):b∉X.fs:=λhb=>by have:=(ok.eB.mem hb).1;rw[e]at this;cases this
theorem Inv.bs (I:Inv X pins σ H s):∀b o,X.base.get? b=Z9 o->s.heap.get? b=Z9 o/\H b=none:=λb o e=>⟨I.base.keep b o (I.ok.bs b o e).1 (I.ok.bs b o e).2 (I.ok.BK e) (I.ok.jC b o e),I.base.free b o (I.ok.bs b o e).1 (I.ok.bs b o e).2 (I.ok.jC b o e)⟩
theorem Inv.bk (I:Inv X pins σ H s):∀b o,X.base.get? b=Z9 o->s.heap.get? b=Z9 o:=λb o e=>(I.bs b o e).1
theorem Inv.mod (I:Inv X pins σ H s):Mod X.K X.mg X.base:=I.ok.mod
theorem Inv.fR (I:Inv X pins σ H s):X.K.In s.heap:=I.ok.mod.BH.keeps I.bk
theorem Inv.fr (I:Inv X pins σ H s):∃m,Fr X.base X.env.locals s.heap m:=
 let⟨m,hn,_⟩:=I.loc
 ⟨m,hn,I.bk,a8 I.ok.kK I.ok.above⟩
theorem Inv.lt (I:Inv X pins σ H s):X.env.locals<s.heap.objs.size:=let⟨_,hn,_⟩:=I.loc;hn.lt
theorem Inv.sz (I:Inv X pins σ H s):X.bH.heap.objs.size<=s.heap.objs.size:=a8 I.ok.above (jx I.lt)
theorem Inv.wG (I:Inv X pins σ H s)(h:s.heap.objs.size<=a):a∉X.fs:=λhb=>by obtain⟨_,o,ho,_⟩:=I.ok.eB.mem hb;exact absurd (cf (bh ho) (a8 I.sz h)) (cu _)
theorem Inv.pO (I:Inv X pins σ H s):∀x c,X.env.cells.lookup x=Z9 c->c≠X.env.locals:=λx c e z=>by obtain⟨v,o,ho,hd⟩:=I.cell x c e;obtain⟨m,⟨d,es,ep,a,b,_⟩,_⟩:=I.loc;rw[z,a]at ho;cases ho;rw[b]at hd;cases hd
theorem Inv.eB (I:Inv X pins σ H s):s.heap.FunFrames X.base X.outer:=by
 have all:∀l,(∀b∈frs l,b∈X.fs)->X.bH.heap.FunFrames X.base l->s.heap.FunFrames X.base l:=by
  intro l
  induction l with
  |nil=>intro _ _;trivial
  |cons env r c=>
   rintro hs ⟨hk,⟨L,o,hf,hn,ho,hd⟩,hr⟩
   have a:=hs L (by unfold frs;rw[gp,hf];exact bj);obtain⟨sl,e⟩:=I.base.slot L o ho (I.ok.qW L a) a λz=>I.ok.jD L z a;exact⟨hk,⟨L,_,hf,hn,e,hd⟩,c (λb hb=>hs b (by unfold frs;rw[gp,hf];exact b0 _ hb)) hr⟩
 exact all X.outer (λ_ hb=>hb) I.ok.eB
theorem Inv.stack (I:Inv X pins σ H s):s.heap.FunFrames X.base X.stack:=by
 rcases I.ok.wD with e|⟨e,hf⟩
 .rw[e];exact I.eB
 .rw[e];obtain⟨m,hn,_⟩:=I.loc;refine .cons (by rw[I.ok.kind];decide) hf hn ?_ I.eB;exact qw (a8 I.ok.kK I.ok.above)
theorem Inv.fT (I:Inv X pins σ H s):∀b∈frs X.stack,b∈X.env.locals::X.fs:=λb hb=>by
 rcases I.ok.wD with e|⟨e,hf⟩
 .rw[e]at hb;simp_all
 .rw[e]at hb;unfold frs at hb;rw[gp,hf]at hb;exact hb
theorem Inv.iQ (I:Inv X pins σ H s):∀b∈frs X.stack,H b=none:=λb hb=>by
 rcases ao.mp (I.fT b hb)with e|hb
 .rw[e];exact I.free
 .obtain⟨_,o,ho,_⟩:=I.ok.eB.mem hb;exact I.base.free b o ho (I.ok.qW b hb) λz=>I.ok.jD b z hb
theorem Inv.step {ch:List Addr}(I:Inv X pins σ H s)
  (a:∀b∈ch,(b∈X.ex\/X.bH.heap.objs.size<=b)/\b≠X.env.locals/\(∀x c,X.env.cells.lookup x=Z9 c->c≠b)/\∀p∈X.pn++pins,p.1≠b)
  (keep:∀b o,b≠X.env.locals->b∉X.fs->b∉ch->s.heap.get? b=Z9 o->H b=Z8->h'.get? b=Z9 o)
  (slot:∀b o,b≠X.env.locals->b∈X.fs->b∉ch->s.heap.get? b=Z9 o->H b=Z8->∃sl,h'.get? b=Z9 {o with slots:=sl}) (free:∀b o,b∉ch->s.heap.get? b=Z9 o->H b=Z8->H' b=Z8)
  (there:∀b o,b∉ch->s.heap.get? b=Z9 o->∃y,h'.get? b=Z9 y)
  (eZ:∀b t,H b=Z9 (.tup t)->H' b=Z9 (.tup t)) (eA:∀b o u,H b=Z9 (.frz o u)->H' b=Z9 (.frz o u)) (fA:∀b ps,H b=Z9 (.pN ps)->∃A,H' b=Z9 (.pN (ps++A)))
  (ns:∀m,s.heap.Ns X.env.locals m->h'.Ns X.env.locals m) (hok:HOk X.prog X.w H' h') (J:ow g'):
  Inv X pins σ H' {s with heap:=h',gens:=g',drawn:=d',toks:=t'}:=by
 have B:∀b o,X.bH.heap.get? b=Z9 o->b≠X.env.locals:=λb o e=>cx (cf (bh e) I.ok.above)
 have h:∀b o,X.bH.heap.get? b=Z9 o->b∉X.ex->b∉ch:=λb o e hx hb=>by
  rcases(a b hb).1 with z|z
  .exact hx z
  .exact absurd (cf (bh e) z) (cu _)
 have f:∀x c,X.env.cells.lookup x=Z9 c->∀v,s.heap.IsCell c v->h'.IsCell c v:=λx c e v ⟨o,ho,hd⟩=>by
  have g:=λz=>(a c z).2.2.1 x c e rfl;by_cases E:c∈X.fs
  .obtain⟨sl,q⟩:=slot c o (I.pO x c e) E g ho (I.bQ x c e);exact⟨_,q,hd⟩
  .exact⟨o,keep c o (I.pO x c e) E g ho (I.bQ x c e),hd⟩
 refine⟨I.ok,I.os,J,⟨λb o e n hb hx=>?_,λb o e n hb hx=>?_,λb o e n hx=>?_,λb o e hx=>?_,λb t e=>eZ b t (I.base.eZ b t e),λb o t e=>eA b o t (I.base.eA b o t e),λb ps e=>?_⟩,?_,λx c e=>?_,?_,λx c e=>?_,λp F=>?_,hok,I.len,λx u e=>let⟨m,hn,q⟩:=I.fx x u e;⟨m,ns m hn,q⟩⟩
 .exact keep b o (B b o e) hb (h b o e hx) (I.base.keep b o e n hb hx) (I.base.free b o e n hx)
 .obtain⟨sl,j⟩:=I.base.slot b o e n hb hx;obtain⟨D,C⟩:=slot b _ (B b o e) hb (h b o e hx) j (I.base.free b o e n hx);exact⟨D,C⟩
 .obtain⟨y,j⟩:=I.base.there b o e hx;exact free b y (h b o e hx) j (I.base.free b o e n hx)
 .obtain⟨y,j⟩:=I.base.there b o e hx;exact there b y (h b o e hx) j
 .obtain⟨K,j⟩:=I.base.fA b ps e;obtain⟨L,C⟩:=fA b _ j;exact⟨K++L,by rw[C,Array.append_assoc]⟩
 .obtain⟨m,hn,hl⟩:=I.loc;refine⟨m,ns m hn,λi x v j C M=>?_⟩;obtain⟨u,r,l⟩:=hl i x v j C M;refine⟨u,r,?_⟩;rcases l with l|⟨k,c,e,z⟩
  .exact .inl l
  .exact .inr ⟨k,c,e,f x c e _ z⟩
 .obtain⟨v,z⟩:=I.cell x c e;exact⟨v,f x c e v z⟩
 .obtain⟨m,⟨o,_,_,ho,_⟩,_⟩:=I.loc;exact free _ o (λz=>(a _ z).2.1 rfl) ho I.free
 .obtain⟨v,o,ho,hd⟩:=I.cell x c e;exact free c o (λz=>(a c z).2.2.1 x c e rfl) ho (I.bQ x c e)
 .obtain⟨e,n,ne,G,d⟩:=I.pin p F;have g:=λz=>(a p.1 z).2.2.2 p F rfl;exact⟨keep p.1 p.2 ne G g e n,free p.1 p.2 g e n,ne,G,d⟩
theorem Inv.un (I:Inv X pins σ H s)(u:Un X.fs [] H H' s.heap h')(hok:HOk X.prog X.w H' h'):Inv X pins σ H' {s with heap:=h',toks:=t'}:=by obtain⟨m,⟨o,es,ep,ho,r⟩,_⟩:=id I.loc;obtain⟨sl,f⟩:=u.any ho I.free (by simp);exact I.step (ch:=[]) (λ_ z=>nomatch z) (λb o _ hb _ e n=>u.keep b o e n hb (by simp)) (λb o _ hb _ e n=>u.slot b o e n hb (by simp)) (λb o _ e n=>u.free b o e n (by simp)) (λb o _ e=>u.there b o e (by simp)) u.eZ u.eA u.fA (λh ⟨i,c,d,a,g⟩=>by rw[ho]at a;cases a;exact⟨_,c,d,f,g⟩) hok I.bare
theorem Inv.call (I:Inv X pins σ H s)(u:Un (frs X.stack) ch H H' s.heap h')(hok:HOk X.prog X.w H' h')(j:ow k)
  (d:∀b∈ch,(b∈X.ex\/X.bH.heap.objs.size<=b)/\b≠X.env.locals/\(∀x c,X.env.cells.lookup x=Z9 c->c≠b)/\∀p∈X.pn++pins,p.1≠b):
  Inv X pins σ H' {s with heap:=h',gens:=k,drawn:=d',toks:=t'}:=by
 obtain⟨m,⟨o,es,ep,ho,r⟩,_⟩:=id I.loc;obtain⟨sl,g⟩:=u.any ho I.free λz=>(d _ z).2.1 rfl;exact I.step d (λb o g hb a e n=>u.keep b o e n (λz=>(ao.mp (I.fT b z)).elim g hb) a) (λb o _ _ a e n=>u.any e n a) (λb o a e n=>u.free b o e n a) (λb o a e=>u.there b o e a) u.eZ u.eA u.fA (λq ⟨t,h,i,f,l⟩=>by rw[ho]at f;cases f;exact⟨_,h,i,g,l⟩) hok j
theorem Inv.turned (I:Inv X pins σ H s)(k:∀b o,b≠a->s.heap.get? b=Z9 o->h'.get? b=Z9 o)(hn:H a=Z8)(g:a≠X.env.locals)
  (h:a∈X.ex\/X.bH.heap.objs.size<=a) (i:∀x c,X.env.cells.lookup x=Z9 c->c≠a) (j:∀p∈X.pn++pins,p.1≠a):Inv X pins σ H {s with heap:=h',toks:=t'}:=by
 have f:∀b u,H b=Z9 u->b≠a:=λb u e z=>by rw[z,hn]at e;cases e
 refine I.step (ch:=[a]) (λb hb=>?_) (λb o _ _ d e _=>k b o (λz=>d (by simp[z])) e) (λb o _ _ d e _=>⟨o.slots,k b o (λz=>d (by simp[z])) e⟩) (λ_ _ _ _ n=>n) (λb o d e=>⟨o,k b o (λz=>d (by simp[z])) e⟩) (λ_ _ e=>e) (λ_ _ _ e=>e) (λb ps e=>⟨#[],by rw[e];simp⟩) (λm hm=>?_) (λb u e=>?_) I.bare
 .have e:b=a:=by simpa using hb
  subst e;exact⟨h,g,i,j⟩
 .obtain⟨o,es,ep,ho,r⟩:=hm;exact⟨o,es,ep,k _ o (Ne.symm g) ho,r⟩
 .refine(I.hok b u e).stay (λc v d q=>k c v ?_ q) (λ_ q=>q) λ_ _ q=>q;rcases d with z|z
  .rw[z];exact f b u e
  .exact f c _ z
theorem Inv.tok (I:Inv X pins σ H s)(t:Nat):Inv X pins σ H {s with toks:=t}:=I.un (h':=s.heap) (t':=t) Un.refl I.hok
theorem Inv.kept (I:Inv X pins σ H s)(k:∀b u,s.heap.get? b=Z9 u->h'.get? b=Z9 u):Inv X pins σ H {s with heap:=h',toks:=t'}:=I.un (Un.kept k) (I.hok.kept k)
theorem Inv.laid (I:Inv X pins σ H s)(k:∀b u,s.heap.get? b=Z9 u->h'.get? b=Z9 u)(c:s.heap.objs.size<=a)(new:z0z X.prog X.w (upd H a o) h' a o): Inv X pins σ (upd H a o) {s with heap:=h',toks:=t'}:=I.un (Un.laid k c (I.hok.fresh c)) (I.hok.laid k c new)
theorem Inv.write (I:Inv X pins σ H s)(mu:Mut (H x))(c:e=x\/H e=Z9 (.own x))(k:∀b u,b≠e->s.heap.get? b=Z9 u->h'.get? b=Z9 u)(a:∃u,h'.get? e=Z9 u) (new:z0z X.prog X.w (upd H x o) h' x o):Inv X pins σ (upd H x o) {s with heap:=h',toks:=t'}:=I.un (Un.write mu c k a) (I.hok.write mu c k a new)
theorem Inv.weak (I:Inv X pins σ H s)(hl:a.length=σ.length)(w:∀(i:Nat) v,a[i]?=Z9 (Z9 v)->σ[i]?=Z9 (Z9 v)):Inv X pins a H s:=⟨I.ok,I.os,I.bare,I.base,let⟨m,hn,NF⟩:=I.loc;⟨m,hn,λi x v b c d=>NF i x v b (w i v c) d⟩,I.cell,I.free,I.bQ,I.pin,I.hok,hl.trans I.len,I.fx⟩
theorem Inv.fU (I:Inv X pins σ H s)(h:∀p∈wH,s.heap.get? p.1=Z9 p.2/\H p.1=Z8/\p.1≠X.env.locals/\p.1∉X.fs/\∀v,p.2.data≠.cell v):Inv X wH σ H s:=⟨I.ok,I.os,I.bare,I.base,I.loc,I.cell,I.free,I.bQ,λp a=>(cr.mp a).elim (λz=>I.pin p (gv _ z)) (h p),I.hok,I.len,I.fx⟩
theorem NG {h:Heap}(x:h.Ns a m)(y:h.Ns a g)(n:Str):m n=g n:=by obtain⟨o,es,ep,e,d,_,f⟩:=x;obtain⟨l,i,j,b,c,_,k⟩:=y;rw[e]at b;cases b;rw[d]at c;cases c;rw[<-f n,k n]
theorem G8 {N:List Str}(hN:N.Nodup){j:Nat}(a:N[i]?=Z9 x)(b:N[j]?=Z9 x):i=j:=by obtain⟨e,c⟩:=br.mp a;obtain⟨f,d⟩:=br.mp b;exact(List.getElem_inj hN).mp (c.trans d.symm)
theorem zbx (I:Inv X pins σ H s)(hN:X.N.Nodup)(J:X.N[i]?=Z9 x)(hx:Loc X.env.scope x)(r:RelV v u)
  (h:∀U,Inv X pins (σ.set i (Z9 v)) H U->(∃a,cy a s.heap U.heap/\(a=X.env.locals\/X.env.cells.lookup x=Z9 a))->Q () U) (hf:Sto X x:=by first|exact⟨.inl rfl,nofun⟩|exact⟨.inr rfl,nofun⟩|assumption):wpAny M A (storeName X.env x u) Q E s:=by
 obtain⟨m,hn,hl⟩:=id I.loc;have C:i<σ.length:=I.len▸(br.mp J).1;have pO:=I.pO
 have f:∀{a:Addr} {h':Heap},(∃o,s.heap.get? a=Z9 o/\H a=Z8)->cy a s.heap h'->HOk X.prog X.w H h':=λ{a h'} ha hs b ob e=>by
  obtain⟨_,_,t⟩:=ha;refine(I.hok b ob e).stay (λc S l q=>(hs.2 c ?_).trans q) (λ_ q=>q) λ_ _ q=>q
  rintro rfl
  rcases l with rfl|l
  .rw[t]at e;cases e
  .rw[t]at l;cases l
 rcases hx with hk|hk
 .refine wpAny_storeName_local hk hn (λh' K hs=>?_) (by rw[I.ok.kind];rfl);obtain⟨oL,_,_,V,_⟩:=id hn;refine h _ ⟨I.ok,I.os,I.bare,⟨λb o e n hb hx=>?_,λb o e n hb hx=>?_,I.base.free,λb o e hx=>?_,I.base.eZ,I.base.eA,I.base.fA⟩,⟨_,K,λj y W g B Y=>?_⟩,λy c e=>?_,I.free,I.bQ,λp hp=>?_,f ⟨oL,V,I.free⟩ hs,by simpa using I.len,λy u e=>by obtain⟨m',D,q⟩:=I.fx y u e;refine⟨_,K,?_⟩;have hy:y≠x:=λz=>hf.2 u (z▸e);have:=NG hn D y;simp[hy,this,q]⟩ ⟨_,hs,.inl rfl⟩
  .exact(hs.2 b (cx (cf (bh e) I.ok.above))).trans (I.base.keep b o e n hb hx)
  .obtain⟨sl,g⟩:=I.base.slot b o e n hb hx;exact⟨sl,(hs.2 b (cx (cf (bh e) I.ok.above))).trans g⟩
  .obtain⟨o',g⟩:=I.base.there b o e hx;exact⟨o',(hs.2 b (cx (cf (bh e) I.ok.above))).trans g⟩
  .by_cases F:j=i
   .subst F;rw[J]at g;cases g;rw[c9 C]at B;cases B;exact⟨u,r,.inl ⟨hk,by simp⟩⟩
   .rw[cj (Ne.symm F)]at B;obtain⟨u',r',q⟩:=hl j y W g B Y;refine⟨u',r',?_⟩;rcases q with⟨k,e⟩|⟨k,c,e,z⟩
    .refine .inl ⟨k,?_⟩;have:y≠x:=λe=>F (G8 hN g (e▸J));simp[this,e]
    .exact .inr ⟨k,c,e,z.sameBut hs (pO y c e)⟩
  .obtain⟨S,z⟩:=I.cell y c e;exact⟨S,z.sameBut hs (pO y c e)⟩
  .obtain⟨e,n,ne,nf,d⟩:=I.pin p hp;exact⟨(hs.2 p.1 ne).trans e,n,ne,nf,d⟩
 .have G:X.fn x=true:=by
   rcases hf.1 with z|z
   .exact z
   .rw[z]at hk;cases hk
  obtain⟨c,l⟩:=I.ok.has x (.inl hk);obtain⟨S,z⟩:=I.cell x c l;refine wpAny_storeName_cell I.ok.kind hk l z (λh' L hs=>?_);obtain⟨oc,O,P⟩:=id z;refine h {s with heap:=h'} ⟨I.ok,I.os,I.bare,⟨λb o e n hb hx=>?_,λb o e n hb hx=>?_,I.base.free,λb o e hx=>?_,I.base.eZ,I.base.eA,I.base.fA⟩,⟨m,hn.sameBut hs (Ne.symm (pO x c l)),λj y W g B Y=>?_⟩,λy T e=>?_,I.free,I.bQ,λp hp=>?_,f ⟨oc,O,I.bQ x c l⟩ hs,by simpa using I.len,λy u e=>let⟨m',D,q⟩:=I.fx y u e;⟨m',D.sameBut hs (Ne.symm (pO x c l)),q⟩⟩ ⟨c,hs,.inr l⟩
  .exact(hs.2 b (cx (cf (bh e) (I.ok.uC x c G l)))).trans (I.base.keep b o e n hb hx)
  .obtain⟨sl,g⟩:=I.base.slot b o e n hb hx;exact⟨sl,(hs.2 b (cx (cf (bh e) (I.ok.uC x c G l)))).trans g⟩
  .obtain⟨o',g⟩:=I.base.there b o e hx;exact⟨o',(hs.2 b (cx (cf (bh e) (I.ok.uC x c G l)))).trans g⟩
  .by_cases F:j=i
   .subst F;rw[J]at g;cases g;rw[c9 C]at B;cases B;exact⟨u,r,.inr ⟨.inl hk,c,l,L⟩⟩
   .rw[cj (Ne.symm F)]at B;obtain⟨u',r',q⟩:=hl j y W g B Y;refine⟨u',r',?_⟩;rcases q with q|⟨k,T,e,z'⟩
    .exact .inl q
    .refine .inr ⟨k,T,e,z'.sameBut hs ?_⟩
     rintro rfl
     exact F (G8 hN g (I.ok.inj _ _ _ e l▸J))
  .by_cases R:T=c
   .subst R;exact⟨_,L⟩
   .obtain⟨w2,z2⟩:=I.cell y T e;exact⟨w2,z2.sameBut hs R⟩
  .obtain⟨e,n,ne,nf,d⟩:=I.pin p hp;refine⟨(hs.2 p.1 ?_).trans e,n,ne,nf,d⟩;intro q;rw[q,O]at e;exact d S (xl e▸P)
theorem z6f (I:Inv X pins σ H s)(hN:X.N.Nodup)(b:X.N[i]?=Z9 x)(hx:Loc X.env.scope x)(r:RelV v u)
  (h:∀a,Inv X pins (σ.set i (Z9 v)) H a->Q () a) (hf:Sto X x:=by first|exact⟨.inl rfl,nofun⟩|exact⟨.inr rfl,nofun⟩|assumption):wpAny M A (storeName X.env x u) Q E s:=
 zbx I hN b hx r (λa c _=>h a c) hf
theorem Inv.call' (I:Inv X pins σ H s)(ho:a.os=s.os)(u:Un (frs X.stack) e H H' s.heap a.heap)(hok:HOk X.prog X.w H' a.heap)(f:ow a.gens)
  (d:∀b∈e,(b∈X.ex\/X.bH.heap.objs.size<=b)/\b≠X.env.locals/\(∀x c,X.env.cells.lookup x=Z9 c->c≠b)/\∀p∈X.pn++pins,p.1≠b):Inv X pins σ H' a:=by
 obtain⟨h',g,h,i,j⟩:=a;subst ho;exact I.call u hok f d
end
abbrev XK:=Value->Option Addr->Hp->Prop
abbrev St:=List (Option V)
abbrev VK:=V->Hp->Prop
abbrev TE:=St->Hp->VK->Prop
abbrev TT:=St->Hp->(Bool->Hp->Prop)->Prop
abbrev TA:=St->Hp->(List V->Hp->Prop)->Prop
structure Ends where
 nx:St->Hp->Prop
 rt:VK
 bk:St->Hp->Prop:=λ_ _=>False
 ct:St->Hp->Prop:=λ_ _=>False
abbrev TS:=Ends->St->Hp->Prop
def EP (X:Cx)(pins:List (Addr×Obj))(σ:St)(Q:VK)(u:Value)(s':ay):Prop:=∃v H',Inv X pins σ H' s'/\RelV v u/\Q v H'
def TP (X:Cx)(pins:List (Addr×Obj))(σ:St)(Q:Bool->Hp->Prop)(b:Bool)(s':ay):Prop:=∃H',Inv X pins σ H' s'/\Q b H'
def AP (X:Cx)(pins:List (Addr×Obj))(σ:St)(Q:List V->Hp->Prop)(us:List Value)(s':ay):Prop:=∃vs H',Inv X pins σ H' s'/\Vals vs us/\Q vs H'
def SP (X:Cx)(pins:List (Addr×Obj))(D:Ends)(f:Flow)(s':ay):Prop:=
 match f with
 |.next=>∃σ' H',Inv X pins σ' H' s'/\D.nx σ' H'
 |.brk=>∃σ' H',Inv X pins σ' H' s'/\D.bk σ' H'
 |.cont=>∃σ' H',Inv X pins σ' H' s'/\D.ct σ' H'
 |.ret u=>∃v σ' H',Inv X pins σ' H' s'/\RelV v u/\D.rt v H'
def PE (X:Cx)(e:Expr)(t:TE):Prop:=∀(pins:List (Addr×Obj)) (s:ay) (σ:St) (H:Hp) (Q:VK),Inv X pins σ H s->t σ H Q->wpAny (model X.prog X.w) X.A (eval e X.env) (EP X pins σ Q) X.xe s
def PT (X:Cx)(e:Expr)(t:TT):Prop:=∀(pins:List (Addr×Obj)) (s:ay) (σ:St) (H:Hp) (Q:Bool->Hp->Prop),Inv X pins σ H s->t σ H Q->wpAny (model X.prog X.w) X.A (vp e X.env (eval e X.env)) (TP X pins σ Q) X.xe s
def PW (X:Cx)(e:Expr)(t:TT):Prop:=∀(whole:Sem Value) (pins:List (Addr×Obj)) (s:ay) (σ:St) (H:Hp) (Q:Bool->Hp->Prop),Inv X pins σ H s->t σ H Q->wpAny (model X.prog X.w) X.A (vp e X.env whole) (TP X pins σ Q) X.xe s
theorem PW.pt (h:PW X e t):PT X e t:=h _
def PA (X:Cx)(es:List Expr)(t:TA):Prop:=∀(pos:Pos) (pins:List (Addr×Obj)) (s:ay) (σ:St) (H:Hp) (Q:List V->Hp->Prop),Inv X pins σ H s->t σ H Q->wpAny (model X.prog X.w) X.A (spliced (nz pos (eo es X.env))) (AP X pins σ Q) X.xe s
def PS (X:Cx)(st:Stmt)(t:TS):Prop:=∀(pins:List (Addr×Obj)) (s:ay) (σ:St) (H:Hp) (D:Ends),Inv X pins σ H s->t D σ H->wpAny (model X.prog X.w) X.A (exec st X.env) (SP X pins D) X.xe s
def PSs (X:Cx)(st:List Stmt)(t:TS):Prop:=∀(pins:List (Addr×Obj)) (s:ay) (σ:St) (H:Hp) (D:Ends),Inv X pins σ H s->t D σ H->wpAny (model X.prog X.w) X.A (execs st X.env) (SP X pins D) X.xe s
theorem aN (h:wpAny M A t Q E s)(b:∀a s,Q a s->c a s):wpAny M A t c E s:=jl h b λ_ _ x=>x
section
variable {X:Cx}
theorem bin (ha:PE X a m)(hb:PE X b n){R:V->V->Hp->Prop}(I:Inv X c e H s)(h:m e H fun x k=>n e k fun y d=>R x y d)
  {l:Type} {Q:l->ay->Prop} {f:Value->Value->Sem l}
  (hf:∀v u j x y d,Inv X c e d j->RelV x v->RelV y u->R x y d->wpAny (model X.prog X.w) X.A (f v u) Q X.xe j):
  wpAny (model X.prog X.w) X.A (eval a X.env) (λv g=>wpAny (model X.prog X.w) X.A (eval b X.env) (λu i=>wpAny (model X.prog X.w) X.A (f v u) Q X.xe i) X.xe g) X.xe s:=by
 exact aN (ha c s e H _ I h) λv o ⟨x,k,p,q,r⟩=>aN (hb c o e k _ p r) λu j ⟨y,d,t,z,B⟩=>hf v u j x y d t q z B
def wI (i:Nat):TE:=λσ H Q=>∃v,σ[i]?=Z9 (Z9 v)/\Q v H
def tC (v:V):TE:=λ_ H Q=>Q v H
theorem nW (hN:X.N[i]?=Z9 x)(j:Vis X.env.scope x)(hd:YC x:=by decide)(f:(x==("__classdict__":Str))=false:=by decide):PE X (.Name x pos) (wI i):=by
 rintro d s k H Q I ⟨v,e,h⟩
 obtain⟨m,hn,hl⟩:=I.loc;obtain⟨u,r,l⟩:=hl i x v hN e j;have b:EP X d k Q u s:=⟨v,H,I,r,h⟩;rcases l with⟨hk,hm⟩|⟨hk,c,g,a⟩
 .exact wj (wpAny_loadName_local I.ok.kind hk hn hm b) hd
 .rcases hk with hk|hk
  .exact wj (wpAny_loadName_cell I.ok.kind hk g a b) hd
  .exact wj (wpAny_loadName_free I.ok.kind hk g a b f) hd
theorem NH {i j pos}:PE X (.Constant (.int i) j pos) (tC (.int i)):=λ_ _ _ H _ I h=>wpAny_Constant_int ⟨.int i,H,I.tok _,⟨_,rfl⟩,h⟩
theorem NI {b j pos}:PE X (.Constant (.bool b) j pos) (tC (.bl b)):=λ_ _ _ H _ I h=>Constant_bool ⟨.bl b,H,I,rfl,h⟩
theorem NJ {j pos}:PE X (.Constant .none j pos) (tC .bG):=λ_ _ _ H _ I h=>tu ⟨.bG,H,I,rfl,h⟩
theorem NK {x j pos}:PE X (.Constant (.str x) j pos) (tC (.str x)):=λ_ _ _ H _ I h=>Calls.Constant_str ⟨.str x,H,I.tok _,⟨_,rfl⟩,h⟩
def Gl (X:Cx)(x:Str):Prop:=X.env.kindOf x=Z9 .globalImplicit
theorem zf3 (I:Inv X a c H s)(b:Gl X x)(hm:X.mg x=Z9 u)(h:Q u s)
  (hd:YC x:=by decide):wpAny (model X.prog X.w) X.A (eval (.Name x pos) X.env) Q E s:=
 n5 I.ok.kind b (Calls.loadGlobal_global (I.ok.glob▸I.mod.glob.keeps I.bk) hm h) hd
theorem z2j (I:Inv X a f H s)(b:Gl X x)(hm:X.mg x=Z8)(c:df x=Z9 u)(h:Q u s)
  (hn:x≠"__name__":=by decide) (hd:YC x:=by decide):wpAny (model X.prog X.w) X.A (eval (.Name x pos) X.env) Q E s:=by
 obtain⟨g,d,e⟩:=I.mod.blt;exact n5 I.ok.kind b (Calls.loadGlobal_builtin (I.ok.glob▸I.mod.glob.keeps I.bk) hm (I.ok.blt▸d.keeps I.bk) ((e x hn).trans c) h) hd
theorem NL (a:Gl X x)(hm:X.mg x=Z8)(b:df x=Z9 u)(r:RelV v u)(hn:x≠"__name__":=by decide)(hd:YC x:=by decide):PE X (.Name x pos) (tC v):=λ_ _ _ H _ I h=>z2j I a hm b ⟨v,H,I,r,h⟩ hn hd
variable {a b:Expr}{ta tb:TE}{pos:Pos}
def PC (X:Cx)(op:CmpOp)(a b:Expr)(t:TE):Prop:=∀(pins:List (Addr×Obj)) (s:ay) (σ:St) (H:Hp) (Q:VK),Inv X pins σ H s->t σ H Q->wpAny (model X.prog X.w) X.A (eval a X.env) (λv BL=>wpAny (model X.prog X.w) X.A (eval b X.env) (λu BM=>wpAny (model X.prog X.w) X.A (eh op v u) (EP X pins σ Q) X.xe BM) X.xe BL) X.xe s
theorem NN (b:Expr)(h:op≠.In)(a:op≠.NotIn):fj op b=false:=by
 have c:(op==CmpOp.In)=false:=by cases op<;>first|rfl|exact absurd rfl h
 have d:(op==CmpOp.NotIn)=false:=by cases op<;>first|rfl|exact absurd rfl a
 cases b<;>simp[fj,c,d]
def wJ (ta:TE):TE:=λσ H Q=>ta σ H λx H1=>Q (.bl (decide (x=.bG))) H1
def G9 (ta:TE):TE:=λσ H Q=>ta σ H λx H1=>Q (.bl (!decide (x=.bG))) H1
theorem RelV.gI (r:RelV x v):(v==Value.none)=decide (x=.bG):=by
 cases x with
 |bG=>cases r;rfl
 |bl _=>cases r;rfl
 |int _=>obtain⟨t,rfl⟩:=r;rfl
 |str _=>obtain⟨t,rfl⟩:=r;rfl
 |ref _=>cases r;rfl
 |ty _=>cases r;rfl
theorem NO {j pos'}(ha:PE X a ta):PC X .Is a (.Constant .none j pos') (wJ ta):=by intro pins s σ H Q I h;exact aN (ha pins s σ H _ I h) λv s1 ⟨x,H1,I1,r1,q1⟩=>tu (is_none_gen ⟨.bl _,H1,I1,by rw[r1.gI];rfl,q1⟩)
theorem NP {j pos'}(ha:PE X a ta):PC X .IsNot a (.Constant .none j pos') (G9 ta):=by intro pins s σ H Q I h;exact aN (ha pins s σ H _ I h) λv s1 ⟨x,H1,I1,r1,q1⟩=>tu (isnot_none_gen ⟨.bl _,H1,I1,by rw[r1.gI];rfl,q1⟩)
def tB (t:TE):TT:=λσ H Q=>t σ H λx H1=>∃c,x=.bl c/\Q c H1
theorem G' (h:PC X op a b t)(f:fj op b=false:=by first|exact NN _ dc dc|rfl):PT X (.Compare a [op] [b] pos) (tB t):=by intro e s g H Q I i;refine qt (aN (h e s g H _ I i) λv o f=>aN f λu p j=>aN j λc r ⟨x,k,l,m,n⟩=>?_) f;obtain⟨d,rfl,q⟩:=n;cases m;exact gm ⟨k,l,q⟩
variable {tA zN:TT}{rest:List Expr}
def BN (t u:TT):TT:=λσ H Q=>t σ H λc H1=>if c=Z7 then u σ H1 Q else Q Z6 H1
def Hc (t u:TT):TT:=λσ H Q=>t σ H λc H1=>if c=Z7 then Q Z7 H1 else u σ H1 Q
def wK (t:TT):TT:=λσ H Q=>t σ H λc H1=>Q (!c) H1
theorem NQ (ha:PT X a tA):PW X (.BoolOp .And [a] pos) tA:=by
 intro f b s d H Q I h;refine isTrue_and (aN (ha b s d H Q I h) λc g e=>?_);cases c with
 |true=>exact isTrue_and_nil e
 |false=>exact e
theorem Hd (ha:PT X a tA):PW X (.BoolOp .Or [a] pos) tA:=by
 intro f b s d H Q I h;refine isTrue_or (aN (ha b s d H Q I h) λc g e=>?_);cases c with
 |false=>exact isTrue_or_nil e
 |true=>exact e
theorem NR (ha:PT X a tA)(hb:PW X (.BoolOp .And (b::rest) pos) zN):PW X (.BoolOp .And (a::b::rest) pos) (BN tA zN):=by
 intro j d s e H Q I h;refine isTrue_and (aN (ha d s e H _ I h) λc k ⟨f,g,i⟩=>?_);cases c with
 |true=>exact hb j d k e f Q g i
 |false=>exact⟨f,g,i⟩
theorem BO (ha:PT X a tA)(hb:PW X (.BoolOp .Or (b::rest) pos) zN):PW X (.BoolOp .Or (a::b::rest) pos) (Hc tA zN):=by
 intro j d s e H Q I h;refine isTrue_or (aN (ha d s e H _ I h) λc k ⟨f,g,i⟩=>?_);cases c with
 |true=>exact⟨f,g,i⟩
 |false=>exact hb j d k e f Q g i
theorem He (ha:PT X a tA):PT X (.UnaryOp .Not a pos) (wK tA):=by intro b s d H Q I h;exact isTrue_not (ha b s d H (λc e=>Q (!c) e) I h)
def NS (ta tb:TE):TE:=λσ H Q=>ta σ H λx H1=>∃c,x=.bl c/\if c=Z7 then tb σ H1 Q else Q (.bl Z6) H1
def BP (ta tb:TE):TE:=λσ H Q=>ta σ H λx H1=>∃c,x=.bl c/\if c=Z7 then Q (.bl Z7) H1 else tb σ H1 Q
theorem Hf {op}(h:PE X a t):PE X (.BoolOp op [a] pos) t:=λb s c H Q I d=>BoolOp_one (h b s c H Q I d)
theorem NT (ha:PE X a ta)(hb:PE X (.BoolOp .And (b::rest) pos) tb):PE X (.BoolOp .And (a::b::rest) pos) (NS ta tb):=by
 intro d s f H Q I h;refine BoolOp_and (aN (ha d s f H _ I h) λv j ⟨x,g,i,k,e⟩=>?_);obtain⟨c,rfl,e⟩:=e;cases k;refine gm ?_;cases c with
 |true=>exact hb d j f g Q i e
 |false=>exact⟨.bl Z6,g,i,rfl,e⟩
theorem NU (ha:PE X a ta)(hb:PE X (.BoolOp .Or (b::rest) pos) tb):PE X (.BoolOp .Or (a::b::rest) pos) (BP ta tb):=by
 intro d s f H Q I h;refine BoolOp_or (aN (ha d s f H _ I h) λv j ⟨x,g,i,k,e⟩=>?_);obtain⟨c,rfl,e⟩:=e;cases k;refine gm ?_;cases c with
 |false=>exact hb d j f g Q i e
 |true=>exact⟨.bl Z7,g,i,rfl,e⟩
def NV (t:TT)(ta tb:TE):TE:=λσ H Q=>t σ H λc H1=>if c=Z7 then ta σ H1 Q else tb σ H1 Q
theorem NW (l:PT X c tA)(ha:PE X a ta)(hb:PE X b tb):PE X (.IfExp c a b pos) (NV tA ta tb):=by
 intro e s f H Q I h;refine wpAny_IfExp (aN (l e s f H _ I h) λd g ⟨i,j,k⟩=>?_);cases d with
 |true=>exact ha e g f i Q j k
 |false=>exact hb e g f i Q j k
end
def SqL (K:Z5)(H:Hp)(a:Addr)(xs:List V):Prop:=Rd H a (.lst xs)\/∃(o:Obj) (dE:Array Value) (n:Nat),K.lookup a=Z9 o/\o.cls=.type "list"/\o.dict=Z8/\o.data=.seq dE n/\dE.size<=bb/\Vals xs dE.toList
def bF (K:Z5)(H:Hp)(a:Addr)(xs:List V):Prop:=Rd H a (.tup xs)\/∃(o:Obj) (dE:Array Value) (n:Nat),K.lookup a=Z9 o/\o.cls=.type "tuple"/\o.dict=Z8/\o.data=.seq dE n/\dE.size<=bb/\Vals xs dE.toList
def BQ:Value->Option V
 |.none=>Z9 .bG
 |.bool b=>Z9 (.bl b)
 |.int i _=>Z9 (.int i)
 |.str x _=>Z9 (.str x)
 |.ref a=>Z9 (.ref a)
 |.type n=>Z9 (.ty n)
 |_=>Z8
theorem RelV.abs (r:RelV x u):BQ u=Z9 x:=by
 cases x with
 |bG=>cases r;rfl
 |bl _=>cases r;rfl
 |int _=>obtain⟨t,rfl⟩:=r;rfl
 |str _=>obtain⟨t,rfl⟩:=r;rfl
 |ref _=>cases r;rfl
 |ty _=>cases r;rfl
theorem RelV.inj (r:RelV x u)(q:RelV y u):x=y:=xl (r.abs.symm.trans q.abs)
theorem Vals.inj:∀{a b:List V} {c:List Value},Vals a c->Vals b c->a=b
 |_,_,_,.nil,.nil=>rfl
 |_,_,_,.cons r t,.cons d e=>by rw[r.inj d,Vals.inj t e]
section
variable {X:Cx}{pins:List (Addr×Obj)}{σ:St}{H:Hp}{s:ay}{a:Addr}{xs ys:List V}
theorem SqL.of {K:Z5}(h:H a=Z9 (.lst xs)):SqL K H a xs:=.inl (.inl h)
theorem bF.of {K:Z5}(h:H a=Z9 (.tup xs)):bF K H a xs:=.inl (.inl h)
theorem Inv.list (I:Inv X pins σ H s)(h:SqL X.K H a xs):∃b,Vals xs b/\PlainL s.heap a b.toArray/\xs.length<=bb:=by
 rcases h with h|⟨o,b,n,hk,c,hd,hs,d,r⟩
 .obtain⟨z,b,n,r,e⟩:=h.ok I.hok;exact⟨b,r,⟨_,n,e,rfl,rfl,rfl⟩,z⟩
 .refine⟨b.toList,r,⟨o,n,I.fR a o hk,c,hd,by simpa using hs⟩,?_⟩;have e:=r.length;simp at e;omega
theorem Inv.tuple (I:Inv X pins σ H s)(h:bF X.K H a xs):∃b,Vals xs b/\IsTup s.heap a b.toArray/\xs.length<=bb:=by
 rcases h with h|⟨o,b,n,hk,c,_,hs,d,r⟩
 .obtain⟨z,b,r,p⟩:=h.ok I.hok;exact⟨b,r,p.tup,z⟩
 .refine⟨b.toList,r,⟨o,I.fR a o hk,c,n,by simpa using hs⟩,?_⟩;have e:=r.length;simp at e;omega
theorem Inv.lI (I:Inv X pins σ H s)(h:bF X.K H a xs):∃l,Vals xs l/\Nw s.heap a l.toArray/\xs.length<=bb:=by
 rcases h with h|⟨o,l,n,q,b,hd,hs,c,r⟩
 .obtain⟨z,l,r,n,q⟩:=h.ok I.hok;exact⟨l,r,⟨_,n,q,rfl,rfl,rfl⟩,z⟩
 .exact⟨l.toList,r,⟨o,n,I.fR a o q,b,hd,(by simpa using hs)⟩,(by have w:=r.length;simp at w;omega)⟩
theorem Inv.lJ (I:Inv X pins σ H s)(h:SqL X.K H a xs)(i:SqL X.K H a ys):xs=ys:=by
 obtain⟨c,r,⟨o,n,e,_,_,d⟩,_⟩:=I.list h;obtain⟨b,j,⟨k,l,f,_,_,g⟩,_⟩:=I.list i;rw[e]at f;cases f;rw[d]at g;injection g with d1 _;have:c=b:=by simpa using congrArg Array.toList d1
 subst this;exact r.inj j
theorem Inv.jE (I:Inv X pins σ H s)(h:bF X.K H a xs)(i:bF X.K H a ys):xs=ys:=by
 obtain⟨c,r,⟨o,e,_,n,d⟩,_⟩:=I.tuple h;obtain⟨b,j,⟨k,f,_,l,g⟩,_⟩:=I.tuple i;rw[e]at f;cases f;rw[d]at g;injection g with d1 _;have:c=b:=by simpa using congrArg Array.toList d1
 subst this;exact r.inj j
end
abbrev Cx.eC (X:Cx)(E:Value->ay->Prop):Cx:={X with xe:=E}
abbrev Cx.wL (X:Cx):Cx:=X.eC λ_ _=>False
theorem Cx.Ok.eC {X:Cx}(ok:X.Ok)(E:Value->ay->Prop):(X.eC E).Ok:=⟨ok.mod,ok.kind,ok.glob,ok.blt,ok.above,ok.inj,ok.has,ok.uC,ok.hd,ok.frames,ok.wD,ok.wF,ok.bs,ok.kK,ok.jC,ok.jD,ok.eB,ok.qW,ok.BJ⟩
theorem Cx.Ok.cI {X:Cx}(ok:(X.eC E).Ok):X.Ok:=⟨ok.mod,ok.kind,ok.glob,ok.blt,ok.above,ok.inj,ok.has,ok.uC,ok.hd,ok.frames,ok.wD,ok.wF,ok.bs,ok.kK,ok.jC,ok.jD,ok.eB,ok.qW,ok.BJ⟩
section
variable {X:Cx}{pins:List (Addr×Obj)}{σ:St}{H:Hp}{s:ay}{E:Value->ay->Prop}
theorem Inv.eC (I:Inv X pins σ H s)(E:Value->ay->Prop):Inv (X.eC E) pins σ H s:=⟨I.ok.eC E,I.os,I.bare,I.base,I.loc,I.cell,I.free,I.bQ,I.pin,I.hok,I.len,I.fx⟩
theorem Inv.cI (I:Inv (X.eC E) pins σ H s):Inv X pins σ H s:=⟨I.ok.cI,I.os,I.bare,I.base,I.loc,I.cell,I.free,I.bQ,I.pin,I.hok,I.len,I.fx⟩
theorem SP.cI (h:SP (X.eC E) pins D f c):SP X pins D f c:=by
 cases f with
 |next=>obtain⟨a,b,I,q⟩:=h;exact⟨a,b,I.cI,q⟩
 |brk=>obtain⟨a,b,I,q⟩:=h;exact⟨a,b,I.cI,q⟩
 |cont=>obtain⟨a,b,I,q⟩:=h;exact⟨a,b,I.cI,q⟩
 |ret u=>obtain⟨v,a,b,I,r,q⟩:=h;exact⟨v,a,b,I.cI,r,q⟩
theorem PSs.wL {st:List Stmt}(h:PSs X.wL st t):PSs X st t:=λpins s σ H D I a=>jl (h pins s σ H D (I.eC _) a) (λ_ _ q=>q.cI) λ_ _ z=>False.elim z
end
section
variable {X:Cx}{st:Stmt}{rest:List Stmt}{t u:TS}{e:Expr}{te:TE}{pos:Pos}
def Hg:TS:=λD σ H=>D.nx σ H
def wM (t u:TS):TS:=λD σ H=>t {D with nx:=u D} σ H
theorem Hh:PSs X [] Hg:=λ_ _ a H _ I h=>wpAny_execs_nil ⟨a,H,I,h⟩
theorem Hi (c:PS X st t)(d:PSs X rest u):PSs X (st::rest) (wM t u):=by
 intro a s e H D I h;refine wpAny_execs_cons (aN (c a s e H {D with nx:=u D} I h) λf g q=>?_);cases f with
 |next=>obtain⟨b,i,j,q⟩:=q;exact d a g b i D j q
 |ret v=>exact q
 |brk=>exact q
 |cont=>exact q
theorem Inv.quiet (I:Inv X a b H s):interactive X.env=false:=by simp[interactive,I.ok.kind]
def pP (te:TE):TS:=λD σ H=>te σ H λ_ H1=>D.nx σ H1
theorem NY (c:PE X e te)(hs:ma e Z8 pos.line X.env=pure false:=by rfl):PS X (.Expr e pos) (pP te):=by intro a s b H D I h;exact wpAny_Expr_any (aN (c a s b H _ I h) λv i ⟨x,d,f,j,g⟩=>⟨b,d,f,g⟩) I.quiet hs
def wN (te:TE):TS:=λD σ H=>te σ H D.rt
theorem BS (c:PE X e te):PS X (.Return (Z9 e) pos) (wN te):=by intro a s b H D I h;exact wpAny_Return_some (aN (c a s b H _ I h) λv j ⟨x,d,f,g,i⟩=>⟨x,b,d,f,g,i⟩)
def wO (c:TT)(t u:TS):TS:=λD σ H=>c σ H λb H1=>if b=Z7 then t D σ H1 else u D σ H1
theorem Hj (l:PT X c tc)(ha:PSs X a t)(hb:PSs X b u):PS X (.If c a b pos) (wO tc t u):=by
 intro e s f H D I h;refine wpAny_If (aN (l e s f H _ I h) λd g ⟨i,j,k⟩=>?_);cases d with
 |true=>exact ha e g f i D j k
 |false=>exact hb e g f i D j k
end
abbrev TG:=V->St->Hp->(St->Hp->Prop)->Prop
abbrev uF:=List V->St->Hp->(St->Hp->Prop)->Prop
def PG (X:Cx)(target:Expr)(t:TG):Prop:=∀(pins:List (Addr×Obj)) (s:ay) (σ:St) (H:Hp) (v:V) (u:Value) (Q:St->Hp->Prop),Inv X pins σ H s->RelV v u->t v σ H Q->wpAny (model X.prog X.w) X.A (t9 target X.env u) (λ_ s'=>∃σ' H',Inv X pins σ' H' s'/\Q σ' H') X.xe s
def PGs (X:Cx)(ts:List Expr)(t:uF):Prop:=∀(pins:List (Addr×Obj)) (s:ay) (σ:St) (H:Hp) (vs:List V) (us:List Value) (Q:St->Hp->Prop),Inv X pins σ H s->Vals vs us->t vs σ H Q->wpAny (model X.prog X.w) X.A (assignInOrder ((g7 ts X.env).map (·.2)) us) (λ_ s'=>∃σ' H',Inv X pins σ' H' s'/\Q σ' H') X.xe s
abbrev BU:=V->V->V->Hp->(Hp->Prop)->Prop
def BV (X:Cx)(t:BU):Prop:=∀(pins:List (Addr×Obj)) (s:ay) (σ:St) (H:Hp) (o i v:V) (ov iv u:Value) (Q:Hp->Prop),Inv X pins σ H s->RelV o ov->RelV i iv->RelV v u->t o i v H Q->wpAny (model X.prog X.w) X.A (setItem ov iv u) (λ_ s'=>∃H',Inv X pins σ H' s'/\Q H') X.xe s
section
variable {X:Cx}{pos:Pos}
def lK (i:Nat):TG:=λv σ H Q=>Q (σ.set i (Z9 v)) H
theorem wQ (hN:X.N.Nodup)(b:X.N[i]?=Z9 x)(hx:Loc X.env.scope x)(hf:Sto X x:=by first|exact⟨.inl rfl,nofun⟩|exact⟨.inr rfl,nofun⟩|assumption):PG X (.Name x pos) (lK i):=by intro a s d H v u Q I r h;exact uh (z6f I hN b hx r (λe c=>⟨_,H,c,h⟩) hf)
def BW:uF:=λvs σ H Q=>vs=[]/\Q σ H
def NZ (t:TG)(u:uF):uF:=λvs σ H Q=>∃v r,vs=v::r/\t v σ H λσ' H'=>u r σ' H' Q
theorem N0:PGs X [] BW:=by
 rintro a s b H c d Q I r ⟨rfl,h⟩
 cases r;exact assignInOrder_nil ⟨b,H,I,h⟩
theorem zfy (c:PG X e t)(d:PGs X es u)
  (hs:(g7 (e::es) X.env).map (·.2)=t9 e X.env::(g7 es X.env).map (·.2):=by rfl):PGs X (e::es) (NZ t u):=by
 rintro a s f H l m Q I r ⟨v,n,rfl,h⟩
 cases r with
 |cons r rr=>rw[hs];refine assignInOrder_cons (aN (c a s f H _ _ _ I r h) λ_ g ⟨b,i,j,k⟩=>?_);exact d a g b i _ _ Q j rr k
def BX (K:Z5)(n:Nat)(t:uF):TG:=λv σ H Q=>∃a xs,v=.ref a/\bF K H a xs/\xs.length=n/\t xs σ H Q
theorem zpg (g:X.calm=Z7)(h:PGs X es t)
  (hn:(g7 es X.env).length=n:=by rfl) (d:(g7 es X.env).findIdx? (·.1)=none:=by rfl):PG X (.Tuple es k pos) (BX X.K n t):=by
 rintro c s f H v u Q I r ⟨a,i,rfl,j,hl,l⟩
 cases r;obtain⟨m,rv,ht,w⟩:=I.tuple j;refine assign_Tuple_tuple (I.ok.hd g) ht (by simp[hn,<-hl,rv.length]) d λp hx=>?_;have q:Inv X c f H {s with heap:=p}:=I.kept λb o e=>hx b o (cx (bh e)) e;exact h c _ f H i _ Q q (by simpa using rv) l
def hZ (te:TE)(g:TG):TS:=λD σ H=>te σ H λx H1=>g x σ H1 D.nx
theorem zq5 (d:PE X e f)(i:PG X b g)(hs:tz [b] e pos.line X.env=pure false:=by rfl)(j:t5 [b] e X.env=pure none:=by rfl)
  (k:(g7 [b] X.env).map (·.2)=[t9 b X.env]:=by rfl):PS X (.Assign [b] e pos) (hZ f g):=by
 intro a s c H D I h;refine wpAny_Assign_stores (aN (d a s c H _ I h) λv l ⟨x,m,n,o,p⟩=>?_) hs j;rw[k];exact aN (i a l c m x v _ n o p) λ_ r q=>q
theorem z9t (hN:X.N.Nodup)(c:X.N[i]?=Z9 x)(hx:Loc X.env.scope x)(d:PE X e f)(hs:ma e (Z9 (.Name x a)) pos.line X.env=pure false:=by rfl)(hf:Sto X x:=by first|exact⟨.inl rfl,nofun⟩|exact⟨.inr rfl,nofun⟩|assumption):
  PS X (.Assign [.Name x a] e pos) (hZ f (lK i)):=by
 intro b s g H D I h;refine wpAny_Assign_Name (aN (d b s g H _ I h) λv o ⟨y,j,k,l,m⟩=>?_) hs;exact z6f k hN c hx l (λp n=>⟨_,j,n,m⟩) hf
end
structure It where
 go:Nat->Hp->Prop
 fJ:Nat->Hp->V->Hp->Prop
 stop:Nat->Hp->Prop
def FpOk (X:Cx)(pins:List (Addr×Obj))(H:Hp)(b:Addr):Prop:=H b=Z8/\b≠X.env.locals/\b∉X.fs/\(b∈X.ex\/X.bH.heap.objs.size<=b)/\(∀x c,X.env.cells.lookup x=Z9 c->c≠b)/\∀p∈X.pn++pins,p.1≠b
theorem Inv.eN (I:Inv X a g H s)(hb:s.heap.objs.size<=b)(hn:d b=Z8):FpOk X a d b:=by
 refine⟨hn,qd (cf I.lt hb),I.wG hb,.inr (a8 I.sz hb),λx c e z=>?_,λp f z=>?_⟩
 .obtain⟨v,q⟩:=I.cell x c e;exact absurd (cf q.lt (z▸hb)) (cu _)
 .exact absurd (cf (bh (I.pin p f).1) (z▸hb)) (cu _)
structure Turn (P:cw)(w:World)(K:Z5)(tg:Expr)(J:It)(fp:List Addr)(it:Addr)(tn:Nat->Heap->Prop):Prop where
 mem:it∈fp
 obj:∀i h,tn i h->∀b∈fp,∃o,h.get? b=Z9 o/\∀v,o.data≠.cell v
 keep:∀i h h',tn i h->(∀b∈fp,∀o,h.get? b=Z9 o->h'.get? b=Z9 o)->tn i h'
 item:∀(X:Cx),X.prog=P->X.w=w->X.K=K->X.calm=Z7->∀(i:Nat) (pins:List (Addr×Obj)) (s:ay) (σ:St) (H:Hp) (E:Value->ay->Prop),Inv X pins σ H s->(∀b∈fp,FpOk X pins H b)->tn i s.heap->J.go i H->wpAny (model P w) X.A (vq (.ref it)) (λr s1=>∃u,r=Z9 u/\wpAny (model P w) X.A (jn tg (.ref it) u) (λ_ s2=>∃x H',Inv X pins σ H' s2/\RelV x u/\J.fJ i H x H'/\tn (i+1) s2.heap/\∀b∈fp,H' b=Z8) E s1) E s
 done:∀(X:Cx),X.prog=P->X.w=w->X.K=K->X.calm=Z7->∀(i:Nat) (pins:List (Addr×Obj)) (s:ay) (σ:St) (H:Hp) (E:Value->ay->Prop),Inv X pins σ H s->(∀b∈fp,FpOk X pins H b)->tn i s.heap->J.stop i H->wpAny (model P w) X.A (vq (.ref it)) (λr s1=>r=Z8/\Inv X pins σ H s1) E s
 self:∀(A:gk) (i:Nat) (s:ay) (Q:Value->ay->Prop) (E:Value->ay->Prop),tn i s.heap->Q (.ref it) s->wpAny (model P w) A (qx (.ref it)) Q E s
abbrev TI:=St->Hp->(It->Hp->Prop)->Prop
def uG (X:Cx)(pins:List (Addr×Obj))(σ:St)(tg:Expr)(R:It->Hp->Prop)(wR:Value)(s2:ay):Prop:=∃(it:Addr) (fp:List Addr) (tn:Nat->Heap->Prop) (J:It) (H':Hp),wR=.ref it/\Inv X pins σ H' s2/\Turn X.prog X.w X.K tg J fp it tn/\tn 0 s2.heap/\(∀b∈fp,FpOk X pins H' b)/\R J H'
def PI (X:Cx)(tg iter:Expr)(wi:TI):Prop:=∀(pins:List (Addr×Obj)) (s:ay) (σ:St) (H:Hp) (R:It->Hp->Prop),Inv X pins σ H s->wi σ H R->wpAny (model X.prog X.w) X.A (eval iter X.env) (λv s1=>wpAny (model X.prog X.w) X.A (qx v) (uG X pins σ tg R) X.xe s1) X.xe s
theorem zd9 (ho:s.heap.get? b=Z9 o)(c:o.cls=.type n)(hd:o.data=.fields d)
  (hn:["enumerate","zip","dict_itemiterator","dict_reverseitemiterator","odict_iterator","itertools.zip_longest","itertools.pairwise"].contains n=Z6) (a:Q () s):wpAny M A (jn e (.ref b) u) Q E s:=by
 cases e<;>first
  |exact ar a
  |(cases u<;>first
   |exact ar a
   |(refine ac (ud ho ?_)
     rw[c,hd];show wpAny M A (if(["enumerate","zip","dict_itemiterator","dict_reverseitemiterator","odict_iterator","itertools.zip_longest","itertools.pairwise"].contains n&&d[0]?==Z9 (kr _))=Z7 then _ else _) Q E s;rw[xk (by intro h;rw[hn]at h;cases h)];exact ar a))
def BY (K:Z5)(a:Addr):It:=⟨λi H=>∃xs x,SqL K H a xs/\xs[i]?=Z9 x,λi H x H'=>H'=H/\∀xs,SqL K H a xs->xs[i]?=Z9 x,λi H=>∃xs,SqL K H a xs/\xs.length<=i⟩
def Hk (K:Z5)(a:Addr):It:=⟨λi H=>∃xs x,bF K H a xs/\xs[i]?=Z9 x,λi H x H'=>H'=H/\∀xs,bF K H a xs->xs[i]?=Z9 x,λi H=>∃xs,bF K H a xs/\xs.length<=i⟩
def pQ (lo:Int)(n:Nat):It:=⟨λi _=>i<n,λi H x H'=>H'=H/\x=.int (lo+i),λi _=>n<=i⟩
theorem Hl {K:Z5}(a g:Addr):Turn P w K U (BY K a) [g] g (λi h=>h.IsListIter g a i) where
 mem:=by simp
 obj:=λi h st b hb=>by
  have e:b=g:=by simpa using hb
  subst e;obtain⟨o,e,c,d⟩:=st;exact⟨o,e,λv z=>by rw[d]at z;cases z⟩
 keep:=λi h m st k=>st.at λo e=>k g (by simp) o e
 item:=by intro X n q r G i f s J H E I hf st t;subst n q r;obtain⟨L,x,l,hx⟩:=t;obtain⟨y,rv,p,M⟩:=I.list l;obtain⟨u,hu,N⟩:=rv.get hx;obtain⟨A,B,O,C,D,F⟩:=hf g (by simp);refine wpAny_pyNext_list_item st p.isList (by simpa using hu) λm j Q=>?_;have R:Inv X f J H {s with heap:=m}:=I.turned (λb o hb e=>(Q.2 b hb).trans e) A B C D F;obtain⟨o,e,c,d⟩:=id j;exact⟨u,rfl,zd9 e c d (by decide) ⟨x,H,R,N,⟨rfl,λV S=>by rw[I.lJ S l];exact hx⟩,j,λb hb=>(hf b hb).1⟩⟩
 done:=by intro X n q r G i f s J H E I hf st t;subst n q r;obtain⟨L,l,hx⟩:=t;obtain⟨y,rv,p,M⟩:=I.list l;obtain⟨A,B,O,C,D,F⟩:=hf g (by simp);have hl:=rv.length;exact wpAny_pyNext_list_end (I.ok.hd G) st p.isList (by grind) λm T=>⟨rfl,I.turned (λb o hb e=>T b o hb e) A B C D F⟩
 self:=λ_ _ _ _ _ st h=>wpAny_pyIter_listiter st h
theorem N1 {K:Z5}(a g:Addr):Turn P w K U (Hk K a) [g] g (λi h=>h.IsTupleIter g a i) where
 mem:=by simp
 obj:=λi h st b hb=>by
  have e:b=g:=by simpa using hb
  subst e;obtain⟨o,e,c,d⟩:=st;exact⟨o,e,λv z=>by rw[d]at z;cases z⟩
 keep:=λi h m st k=>st.at λo e=>k g (by simp) o e
 item:=by intro X n q r G i f s J H E I hf st t;subst n q r;obtain⟨L,x,l,hx⟩:=t;obtain⟨y,rv,p,M⟩:=I.tuple l;obtain⟨u,hu,N⟩:=rv.get hx;obtain⟨A,B,O,C,D,F⟩:=hf g (by simp);refine wpAny_pyNext_tuple_item st p (by simpa using hu) λm j Q=>?_;have R:Inv X f J H {s with heap:=m}:=I.turned (λb o hb e=>(Q.2 b hb).trans e) A B C D F;obtain⟨o,e,c,d⟩:=id j;exact⟨u,rfl,zd9 e c d (by decide) ⟨x,H,R,N,⟨rfl,λV S=>by rw[I.jE S l];exact hx⟩,j,λb hb=>(hf b hb).1⟩⟩
 done:=by intro X n q r G i f s J H E I hf st t;subst n q r;obtain⟨L,l,hx⟩:=t;obtain⟨y,rv,p,M⟩:=I.tuple l;obtain⟨A,B,O,C,D,F⟩:=hf g (by simp);have hl:=rv.length;exact wpAny_pyNext_tuple_end (I.ok.hd G) st p (by grind) λm T=>⟨rfl,I.turned (λb o hb e=>T b o hb e) A B C D F⟩
 self:=λ_ _ _ _ _ st h=>wpAny_pyIter_tupleiter st h
theorem N2 {K:Z5}(a:Addr)(f:Int)(n:Nat):Turn P w K L (pQ f n) [a] a (λi h=>vw h a (f+(i:Nat)*1) ((n:Int)-(i:Nat)) 1) where
 mem:=by simp
 obj:=λi h st b hb=>by
  have e:b=a:=by simpa using hb
  subst e;exact⟨_,st,λv z=>by cases z⟩
 keep:=λi h g st k=>k a (by simp) _ st
 item:=by intro X x y A j i c s B H E I hf st l;subst x y A;obtain⟨m,p,C,q,r,u⟩:=hf a (by simp);refine(Walks.range (prog:=X.prog) (w:=X.w) (I.ok.hd j) a f 1 n).item i s _ _ l st λv g D F d kk=>?_;obtain⟨t,rfl⟩:=F;have G:Inv X c B H {s with heap:=g,toks:=D}:=I.turned (λb o hb e=>kk b o (by simpa using hb) e) m p q r u;refine⟨_,rfl,zd9 d rfl rfl (by decide) ⟨.int (f+i),H,G,⟨t,?_⟩,⟨rfl,rfl⟩,d,λb hb=>(hf b hb).1⟩⟩;rw[Int.mul_one]
 done:=by intro X x y A j i c s B H E I hf st l;obtain⟨m,p,C,q,r,u⟩:=hf a (by simp);exact qe (I.ok.hd j) st (by have:n<=i:=l;omega) λg J=>⟨rfl,I.turned (λb o hb e=>J b o hb e) m p q r u⟩
 self:=λ_ _ _ _ _ st h=>qf st h
section
variable {X:Cx}{tg:Expr}
def wU (K:Z5)(tl:TE):TI:=λσ H R=>tl σ H λx H1=>∃a,x=.ref a/\(∃xs,SqL K H1 a xs)/\R (BY K a) H1
theorem Hm (hl:PE X l tl):PI X tg l (wU X.K tl):=by
 intro c s g H R I h;refine aN (hl c s g H _ I h) λv f ⟨x,i,d,j,k⟩=>?_;obtain⟨a,rfl,⟨r,m⟩,q⟩:=k;cases j;obtain⟨n,rv,p,t⟩:=d.list m;refine jp p.isList (⟨f.heap.objs.size,[f.heap.objs.size],_,_,i,rfl,d.kept λb o e=>ah _ e,Hl a _,⟨_,ax _ rfl,rfl,rfl⟩,λb hb=>?_,q⟩);have e:b=f.heap.objs.size:=by simpa using hb
 subst e;exact d.eN (af _) (d.hok.fresh (af _))
theorem z9v {a:Int}(I:Inv X d g H s)(h:-(2 ^ 62)<=a)(i:a<2 ^ 62)(j:-(2 ^ 62)<=c)(k:c<2 ^ 62)
  (q:R (pQ a (c-a).toNat) H):wpAny (model X.prog X.w) X.A (qx (.ref s.heap.objs.size)) (uG X d g tg R) E {s with heap:=s.heap.push {cls:=.type "range",data:=.fields #[.int a t,.int c u,.int 1 v]},toks:=tk}:=by
 refine ue (IsRange.new ..) (small_one h i j k) ?_;have f:Inv X d g H {s with heap:=s.heap.push {cls:=.type "range",data:=.fields #[.int a t,.int c u,.int 1 v]},toks:=tk}:=I.kept λb o e=>ah _ e;refine⟨(s.heap.push {cls:=.type "range",data:=.fields #[.int a t,.int c u,.int 1 v]}).objs.size,[(s.heap.push {cls:=.type "range",data:=.fields #[.int a t,.int c u,.int 1 v]}).objs.size],_,_,H,rfl,f.kept λb o e=>ah _ e,N2 _ a (c-a).toNat,?_,λb hb=>?_,q⟩
 .have l:a+((0:Nat):Int)*1=a:=by simp
  have m:(((c-a).toNat:Nat):Int)-((0:Nat):Int)=kx a c 1:=by rw[rangeSize_one];split<;>omega
  rw[l,m];exact ax _ rfl
 .have e:b=(s.heap.push {cls:=.type "range",data:=.fields #[.int a t,.int c u,.int 1 v]}).objs.size:=by simpa using hb
  subst e;exact f.eN (af _) (f.hok.fresh (af _))
def Hn (ta:TA):TI:=λσ H R=>ta σ H λvs H1=>∃j:Int,vs=[.int j]/\-(2 ^ 62)<=j/\j<2 ^ 62/\R (pQ 0 j.toNat) H1
def N3 (ta:TA):TI:=λσ H R=>ta σ H λvs H1=>∃i j:Int,vs=[.int i,.int j]/\(-(2 ^ 62)<=i/\i<2 ^ 62/\-(2 ^ 62)<=j/\j<2 ^ 62)/\R (pQ i (j-i).toNat) H1
theorem Ho (d:Gl X "range")(hm:X.mg "range"=Z8)(ha:PA X [a] e)(hs:eo [a] X.env=[(Z6,eval a X.env)]:=by rfl):PI X tg (.Call (.Name "range" p) [a] [] pos) (Hn e):=by
 intro b s f H R I h;refine Call_ (z2j I d hm wm (PyProof.Rows.callWith_type1 (aN (ha pos b s f H _ I h) λl m ⟨n,o,g,i,c⟩=>?_) hs rfl));obtain⟨j,rfl,c,k,q⟩:=c;cases i with
 |cons r rr=>cases rr;obtain⟨t,rfl⟩:=r;exact call_range_1 (z9v g (by omega) (by omega) c k (by simpa using q))
theorem zds (f:Gl X "range")(hm:X.mg "range"=Z8)(ha:PA X [a,b] g)(hs:eo [a,b] X.env=[(Z6,eval a X.env),(Z6,eval b X.env)]:=by rfl)(c:eo [b] X.env=[(Z6,eval b X.env)]:=by rfl):
  PI X tg (.Call (.Name "range" p) [a,b] [] pos) (N3 g):=by
 intro d s k H R I h;refine Call_ (z2j I f hm wm (PyProof.Rows.callWith_type1 (aN (ha pos d s k H _ I h) λw x ⟨y,z,l,m,e⟩=>?_) (by rw[hs,c]) (by rw[c];rfl)));obtain⟨i,j,rfl,⟨e,n,o,u⟩,q⟩:=e;cases m with
 |cons r rr=>
  cases rr with
  |cons v rr=>cases rr;obtain⟨t,rfl⟩:=r;obtain⟨A,rfl⟩:=v;exact call_range_2 (z9v l e n o u q)
def fB (wi:TI)(g:TG)(tb:TS):TS:=λD σ H=>wi σ H λJ H1=>∃W:Nat->Nat->St->Hp->Prop,(∃m,W 0 m σ H1)/\∀i m σ H,W i m σ H->(J.stop i H/\D.nx σ H)\/(J.go i H/\∃N:St->Hp->Prop,(∀σ' H',N σ' H'->∃m',m'<m/\W (i+1) m' σ' H')/\∀x H',J.fJ i H x H'->g x σ H' λnX H2=>tb {D with nx:=N,ct:=N,bk:=D.nx} nX H2)
def z7s (fp:List Addr)(h:Heap):List (Addr×Obj):=fp.filterMap λb=>(h.get? b).map λo=>(b,o)
theorem uH (hb:b∈a)(e:h.get? b=Z9 o):(b,o)∈z7s a h:=ko.mpr ⟨b,hb,by rw[e];rfl⟩
theorem N4 (a:p∈z7s c h):p.1∈c/\h.get? p.1=Z9 p.2:=by
 obtain⟨b,hb,e⟩:=ko.mp a;cases q:h.get? b with
 |none=>rw[q]at e;cases e
 |some o=>rw[q]at e;have d:=xl e;subst d;exact⟨hb,q⟩
theorem Inv.pinned (I:Inv X a g H s)(hf:∀b∈c,FpOk X a H b)(ho:∀b∈c,∃o,s.heap.get? b=Z9 o/\∀v,o.data≠.cell v):Inv X (a++z7s c s.heap) g H s:=I.fU λp h=>(cr.mp h).elim (λz=>I.pin p (bp _ z)) λz=>by obtain⟨hb,e⟩:=N4 z;obtain⟨i,j,k,_⟩:=hf p.1 hb;obtain⟨o,f,d⟩:=ho p.1 hb;rw[e]at f;cases f;exact⟨e,i,j,k,d⟩
theorem Inv.bS (I:Inv X (a++pl) b H s):Inv X a b H s:=I.fU λp c=>I.pin p (bp _ (gv _ c))
theorem z47 (C:iz (model X.prog X.w) X.A X.env X.xe)(U:X.calm=Z7)(hi:PI X tg y wi)(hg:PG X tg g)(hb:PSs X E tb)
  (hs:∀x,gx y X.env x=pure x:=by intro _;rfl):PS X (.For tg y E [] pos) (fB wi g tb):=by
 intro a s V H D I h;refine wpAny_For (aN (hi a s V H _ I h) λv s1 h1=>aN h1 λwR s2 h2=>?_) hs;obtain⟨it,F,tn,J,H2,rfl,I2,T,P,Y,W,⟨m0,w0⟩,G⟩:=h2;have j:∀{t:Hp},(∀b∈F,t b=Z8)->∀b∈F,FpOk X a t b:=λhn b hb=>⟨hn b hb,(Y b hb).2⟩;refine codeAny_forLoop_any (λn s'=>∃i k t,Inv X a k t s'/\tn i s'.heap/\(∀b∈F,t b=Z8)/\W i n k t) ?_ m0 ⟨0,V,H2,I2,P,λb hb=>(Y b hb).1,w0⟩
 rintro n s3 ⟨i,cB,O,I3,K,L,w3⟩
 rcases G i n cB O w3 with⟨stop,qn⟩|⟨go,N,hN,step⟩
 .refine j6 C (aN (T.done X rfl rfl rfl U i a s3 cB O X.xe I3 (j L) K stop) λr s4 ⟨hr,I4⟩=>?_);subst hr;exact wpAny_execs_nil ⟨cB,O,I4,qn⟩
 .refine j6 C (aN (T.item X rfl rfl rfl U i a s3 cB O X.xe I3 (j L) K go) λr s4 ⟨u,hr,h4⟩=>?_);subst hr;refine j6 C (aN h4 λ_ s5 ⟨x,H5,I5,r5,y5,B,Q⟩=>?_);refine j6 C (aN (hg _ s5 cB H5 x u _ (I5.pinned (j Q) (T.obj _ _ B)) r5 (step x H5 y5)) λ_ s6 ⟨R,H6,I6,q6⟩=>?_);refine j6 C (aN (hb _ s6 R H6 _ I6 q6) λf S z=>?_);have l:∀{c:St} {p:Hp},Inv X (a++z7s F s5.heap) c p S->N c p->∃m,m<n/\∃i k t,Inv X a k t S/\tn i S.heap/\(∀b∈F,t b=Z8)/\W i m k t:=λ{c p} q M=>by obtain⟨m',hm,w7⟩:=hN c p M;refine⟨m',hm,i+1,c,p,q.bS,T.keep _ _ _ B λb hb o e=>(q.pin (b,o) (bp _ (bp _ (uH hb e)))).1,λb hb=>?_,w7⟩;obtain⟨o,e,d⟩:=T.obj _ _ B b hb;exact(q.pin (b,o) (bp _ (bp _ (uH hb e)))).2.1
  cases f with
  |next=>obtain⟨c,p,q,M⟩:=z;exact l q M
  |cont=>obtain⟨c,p,q,M⟩:=z;exact l q M
  |brk=>obtain⟨c,p,q,z⟩:=z;exact⟨c,p,q.bS,z⟩
  |ret v=>obtain⟨x7,c,p,q,r7,z⟩:=z;exact⟨x7,c,p,q.bS,r7,z⟩
end
theorem zf0 {j:Int}{g:TG}{l:TS}{D:Ends}(b:Nat->St->Hp->Prop)(h0:b 0 a H)
  (hs:∀i a H,i<n->b i a H->g (.int (j+i)) a H λc k=>l {D with nx:=b (i+1),ct:=b (i+1),bk:=D.nx} c k) (hd:∀a H,b n a H->D.nx a H):
  ∃W:Nat->Nat->St->Hp->Prop,(∃m,W 0 m a H)/\∀i m a H,W i m a H->((pQ j n).stop i H/\D.nx a H)\/((pQ j n).go i H/\∃N,(∀d f,N d f->∃o,o<m/\W (i+1) o d f)/\∀x f,(pQ j n).fJ i H x f->g x a f λc k=>l {D with nx:=N,ct:=N,bk:=D.nx} c k):=by
 refine⟨λi m a H=>m=n-i/\i<=n/\b i a H,⟨n,by simp,be _,h0⟩,?_⟩
 rintro i m a H ⟨rfl,r,p⟩
 by_cases h:i<n
 .refine .inr ⟨h,b (i+1),λd f q=>⟨n-(i+1),by omega,rfl,h,q⟩,λx f y=>?_⟩;obtain⟨e,y⟩:=y;subst e y;exact hs i a _ h p
 .have e:i=n:=by omega
  subst e;exact .inl ⟨af _,hd a H p⟩
abbrev R2:=V->V->Hp->VK->Prop
def OpR (X:Cx)(f:Value->Value->Sem Value)(r:R2):Prop:=∀(pins:List (Addr×Obj)) (s:ay) (σ:St) (H:Hp) (x y:V) (v u:Value) (Q:VK),Inv X pins σ H s->RelV x v->RelV y u->r x y H Q->wpAny (model X.prog X.w) X.A (f v u) (EP X pins σ Q) X.xe s
def CallR (X:Cx)(f:Value)(r:List V->Hp->VK->Prop):Prop:=∀(pins:List (Addr×Obj)) (s:ay) (σ:St) (H:Hp) (xs:List V) (us:List Value) (Q:VK),Inv X pins σ H s->Vals xs us->r xs H Q->wpAny (model X.prog X.w) X.A (call f us) (EP X pins σ Q) X.xe s
def BZ (X:Cx)(r:V->Hp->(Bool->Hp->Prop)->Prop):Prop:=∀(pins:List (Addr×Obj)) (s:ay) (σ:St) (H:Hp) (x:V) (v:Value) (Q:Bool->Hp->Prop),Inv X pins σ H s->RelV x v->r x H Q->wpAny (model X.prog X.w) X.A (truthy v) (TP X pins σ Q) X.xe s
def gK (r:R2)(ta tb:TE):TE:=λσ H Q=>ta σ H λx H1=>tb σ H1 λy H2=>r x y H2 Q
def rI (C:Int->Int->Prop)(g:Int->Int->V):R2:=λx y H Q=>∃i j,x=.int i/\y=.int j/\C i j/\Q (g i j) H
def lM (g:Int->Int->V):R2:=λx y H Q=>∃i j,x=.int i/\y=.int j/\Q (g i j) H
section
variable {X:Cx}{a b c:Expr}{ta tb tc:TE}{pos:Pos}
theorem binT (ha:PE X a ta)(hb:PE X b tb){R:V->V->Hp->Prop}(I:Inv X pins d H s)
  (h:ta d H λx j=>tb d j λy c=>R x y c) {f:Value->Value->Sem Value}
  (hf:∀v u i x y c,Inv X pins d c i->RelV x v->RelV y u->R x y c->wpAny (model X.prog X.w) X.A (f v u) Q X.xe i):
  wpAny (model X.prog X.w) X.A (eval a X.env) (λv e=>wpAny (model X.prog X.w) X.A (eval b X.env) (λu g=>wpAny (model X.prog X.w) X.A (f v u) Q X.xe g) X.xe e) X.xe s:=by
 exact aN (ha pins s d H _ I h) λv k ⟨x,j,l,m,n⟩=>aN (hb pins k d j _ l n) λu i ⟨y,c,o,p,q⟩=>hf v u i x y c o m p q
theorem B7 (ho:OpR X (ig op) r)(ha:PE X a ta)(hb:PE X b tb):PE X (.BinOp a op b pos) (gK r ta tb):=by intro c s d H Q I h;exact wpAny_BinOp (binT ha hb I h λv u e x y f g i j q=>ho c e d f x y v u Q g i j q)
theorem opI {g:Int->Int->Int}
  (a:∀i j t u s Q E,C i j->Q (.int (g i j) s.toks) {s with toks:=s.toks+1}->wpAny (model X.prog X.w) X.A (f (.int i t) (.int j u)) Q E s):
  OpR X f (rI C λi j=>.int (g i j)):=by
 rintro b s k H x y v u Q I c d ⟨i,j,rfl,rfl,e,q⟩
 obtain⟨t,rfl⟩:=c;obtain⟨h,rfl⟩:=d;exact a i j t h s _ _ e ⟨.int (g i j),H,I.tok _,⟨_,rfl⟩,q⟩
theorem opI0 {g:Int->Int->Int}
  (a:∀i j t u s Q E,Q (.int (g i j) s.toks) {s with toks:=s.toks+1}->wpAny (model X.prog X.w) X.A (f (.int i t) (.int j u)) Q E s):
  OpR X f (lM λi j=>.int (g i j)):=by
 rintro b s h H x y v u Q I c d ⟨i,j,rfl,rfl,q⟩
 obtain⟨t,rfl⟩:=c;obtain⟨e,rfl⟩:=d;exact a i j t e s _ _ ⟨.int (g i j),H,I.tok _,⟨_,rfl⟩,q⟩
theorem opB0 {g:Int->Int->Bool}
  (a:∀i j t u s Q E,Q (.bool (g i j)) s->wpAny (model X.prog X.w) X.A (f (.int i t) (.int j u)) Q E s):
  OpR X f (lM λi j=>.bl (g i j)):=by
 rintro b s h H x y v u Q I c d ⟨i,j,rfl,rfl,q⟩
 obtain⟨t,rfl⟩:=c;obtain⟨e,rfl⟩:=d;exact a i j t e s _ _ ⟨.bl (g i j),H,I,rfl,q⟩
def B8 (i j:Int):Prop:=0<=j/\j<=1000000/\i.natAbs<2 ^ 64
def qX (i j:Int):Prop:=(-(2 ^ 64)<i/\i<2 ^ 64)\/(-(2 ^ 64)<j/\j<2 ^ 64)
theorem qX.ok (h:qX i j):IntMulOk i j:=by
 rcases h with⟨a,b⟩|⟨a,b⟩
 .exact .of_left (intBits_le_64 a b)
 .exact .of_right (intBits_le_64 a b)
theorem N5:OpR X (ig .Add) (lM λi j=>.int (i+j)):=opI0 λ_ _ _ _ _ _ _ q=>add_int q
theorem N6:OpR X (ig .Sub) (lM λi j=>.int (i-j)):=opI0 λ_ _ _ _ _ _ _ q=>sub_int q
theorem N7:OpR X (ig .Mult) (rI qX λi j=>.int (i*j)):=opI λ_ _ _ _ _ _ _ a q=>mul_int q a.ok
theorem N8:OpR X (ig .Mod) (rI (λ_ j=>0<j) λi j=>.int (i%j)):=opI λi j _ _ _ _ _ a q=>by exact mod_int' (by omega) (by rw[Int.fmod_eq_emod_of_nonneg i (by omega)];exact q)
theorem N9:OpR X (ig .Pow) (rI B8 λi j=>.int (i ^ j.toNat)):=opI λ_ _ _ _ _ _ _ a q=>pow_int_small a.1 a.2.1 a.2.2 q
end
section
variable {X:Cx}{a b c:Expr}{ta tb tc:TE}{pos:Pos}
theorem Oa:OpR X (eh .Lt) (lM λi j=>.bl (decide (i<j))):=opB0 λ_ _ _ _ _ _ _ q=>lt_int q
theorem Ob:OpR X (eh .Gt) (lM λi j=>.bl (decide (j<i))):=opB0 λ_ _ _ _ _ _ _ q=>gt_int q
theorem Oc:OpR X (eh .GtE) (lM λi j=>.bl (decide (j<=i))):=opB0 λ_ _ _ _ _ _ _ q=>ge_int q
theorem OpR.or (h:OpR X f r)(e:OpR X f g):OpR X f (λx y H Q=>r x y H Q\/g x y H Q):=by
 intro a s b H x y v u Q I c d q;rcases q with q|q
 .exact h a s b H x y v u Q I c d q
 .exact e a s b H x y v u Q I c d q
theorem Hq (ho:OpR X (eh op) r)(ha:PE X a ta)(hb:PE X b tb)(hm:fj op b=Z6):PE X (.Compare a [op] [b] pos) (gK r ta tb):=by intro c s d H Q I h;exact wpAny_Compare1 (binT ha hb I h λv u e x y f g i j q=>ho c e d f x y v u Q g i j q) hm
def qY (t:TE):TT:=λσ H Q=>t σ H λx H'=>∃k,x=.bl k/\Q k H'
theorem B9 (ho:OpR X (eh op) r)(ha:PE X a ta)(hb:PE X b tb)(hm:fj op b=Z6):PT X (.Compare a [op] [b] pos) (qY (gK r ta tb)):=by intro d s f H Q I h;refine qt (aN (ha d s f H _ I h) λv g ⟨x,i,j,l,m⟩=>aN (hb d g f i _ j m) λu n ⟨y,o,p,q,t⟩=>aN (ho d n f o x y v u _ p l q t) λc C ⟨z,w,A,r3,k,e,B⟩=>?_) hm;subst e;cases r3;exact gm ⟨w,A,B⟩
def lN (K:Z5)(x:V)(H:Hp)(k:Bool):Prop:=
 match x with
 |.bG=>k=Z6
 |.bl b=>k=b
 |.int i=>k=(i != 0)
 |.str y=>y.length<=bb/\k=((y.length:Int) != 0)
 |.ref p=>(∃xs,SqL K H p xs/\k=!xs.isEmpty)\/(∃xs,bF K H p xs/\k=!xs.isEmpty)\/∃kvs,H p=Z9 (.dK kvs)/\k=!kvs.isEmpty
 |_=>False
theorem Od (r:KV kvs vs):(!vs.isEmpty)=!kvs.isEmpty:=by cases r<;>rfl
theorem Hr (r:Vals xs dE):(!dE.toArray.isEmpty)=!xs.isEmpty:=by cases r<;>simp
theorem qZ:(bb:Nat)<2 ^ 63:=by rw[bt];decide
theorem Hs:BZ X (λx H Q=>∃k,lN X.K x H k/\Q k H):=by
 rintro g s o H x v Q I d ⟨k,e,q⟩
 have hl:=qZ;cases x with
 |bG=>cases d;have a:=e;subst a;exact truthy_none ⟨H,I,q⟩
 |bl b=>cases d;have a:=e;subst a;exact gm ⟨H,I,q⟩
 |int i=>obtain⟨t,rfl⟩:=d;have a:=e;subst a;exact PySem.P.truthy_int ⟨H,I,q⟩
 |str y=>obtain⟨t,rfl⟩:=d;obtain⟨u,rfl⟩:=e;exact PySem.P.truthy_str (by omega) ⟨H,I.tok _,q⟩
 |ref p=>
  cases d;have a:=e;rcases a with⟨j,hx,a⟩|⟨j,hx,a⟩|⟨l,hx,a⟩
  .subst a;obtain⟨f,r,pl,h⟩:=I.list hx;have c:=r.length;exact wpAny_truthy_list pl.isList (by grind) ⟨H,I.tok _,by rw[Hr r];exact q⟩
  .subst a;obtain⟨f,r,pl,h⟩:=I.tuple hx;have c:=r.length;exact truthy_tuple pl (by grind) ⟨H,I.tok _,by rw[Hr r];exact q⟩
  .subst a;obtain⟨h,n,w,r,m⟩:=I.hok p _ hx;have c:=Paired.length r;exact wpAny_truthy_dict n m (by omega) ⟨H,I.tok _,by rw[Od r];exact q⟩
 |_=>exact e.elim
theorem z9j (ha:PE X a ta)(f:∀b,vp a X.env b=(do let v <-b;standAt a.pos;holding [v] (truthy v))):
  PT X a (λd H Q=>ta d H λx e=>∃k,lN X.K x e k/\Q k e):=by
 intro c s d H Q I h;exact isTrue_plain (aN (ha c s d H _ I h) λv g ⟨x,i,j,l,m⟩=>Hs c g d i x v Q j l m) (f _)
theorem Oe:OpR X (ig .Add) (λx y H Q=>∃i j,x=.str i/\y=.str j/\i.length+j.length<=bb/\Q (.str (i++j)) H):=by
 rintro a s f H x y v u Q I b c ⟨i,j,rfl,rfl,d,q⟩
 obtain⟨t,rfl⟩:=b;obtain⟨e,rfl⟩:=c;exact add_str (λe g=>⟨.str (i++j),H,I.tok _,⟨_,rfl⟩,q⟩) d
theorem vals1 (r:Vals [x] us):∃u,us=[u]/\RelV x u:=by
 cases r with
 |cons a b=>cases b;exact⟨_,rfl,a⟩
theorem vals2 (r:Vals [x,y] us):∃u a,us=[u,a]/\RelV x u/\RelV y a:=by
 cases r with
 |cons b c=>
  cases c with
  |cons r3 r4=>cases r4;exact⟨_,_,rfl,b,r3⟩
theorem Of (d:X.calm=Z7):CallR X (.builtin "max") (λb H Q=>∃i j,b=[.int i,.int j]/\Q (.int (if j>i then j else i)) H):=by
 rintro c s e H b f Q I r ⟨i,j,rfl,q⟩
 obtain⟨u,g,rfl,⟨t,rfl⟩,h,rfl⟩:=vals2 r;refine max_two_ints (I.ok.hd d) λl m k=>⟨_,H,I.kept k,?_,q⟩;by_cases a:j>i
 .rw[xh a,xh a];exact⟨_,rfl⟩
 .rw[xk a,xk a];exact⟨_,rfl⟩
theorem Og:CallR X (.type "int") (λa H Q=>(∃i,a=[.int i]/\Q (.int i) H)\/∃k,a=[.bl k]/\Q (.int (if k then 1 else 0)) H):=by
 intro b s c H a d Q I r h;rcases h with⟨i,rfl,q⟩|⟨k,rfl,q⟩
 .obtain⟨u,rfl,t,rfl⟩:=vals1 r;exact call_int_int ⟨.int i,H,I,⟨_,rfl⟩,q⟩
 .obtain⟨u,rfl,rfl⟩:=vals1 r;exact call_int_bool ⟨.int (if k then 1 else 0),H,I.tok _,⟨_,rfl⟩,q⟩
end
structure rA (h:Heap)(x dx C:Addr)(mA:Str->Option Value):Prop where
 obj:h.get? x=Z9 (W.instObj C dx)
 ns:h.Ns1 dx mA
 ne:dx≠x
theorem Oh {h:Heap}(n:h.Ns1 d f):∃od,h.get? d=Z9 od/\∀b,W.lookIn b od=Z9 (f b):=by
 obtain⟨o,es,ep,ho,hd,hk,_,hm⟩:=n;refine⟨o,ho,λb=>?_⟩;have e:=hm b;unfold nsFind findBy at e;rw[<-Array.find?_toList]at e;unfold W.lookIn;rw[hd]
 dsimp only
 split
 .rename_i y q;rw[q]at e;exact congrArg Z9 e
 .rename_i q;rw[q]at e;have a:es.toList.any (·.refKey)=false:=by rw[ui];intro y g;obtain⟨z,t,c⟩:=hk y (Array.mem_toList_iff.mp g);simp[DictEntry.refKey,c]
  rw[xk (a▸gc)];exact congrArg Z9 e
theorem rA.look (I:rA h x b C c):∃od,W.InstAt h x (W.instObj C b) C (Z9 od)/\∀a,W.lookIn a od=Z9 (c a):=
 let⟨od,ho,hl⟩:=Oh I.ns
 ⟨od,⟨I.obj,rfl,rfl,ho⟩,hl⟩
theorem cY.some_of (r:cY (Z9 v) o):∃u,o=Z9 u/\RelV v u:=by
 cases o with
 |none=>exact r.elim
 |some u=>exact⟨u,rfl,r⟩
theorem cY.none_of (r:cY Z8 o):o=none:=by
 cases o with
 |none=>rfl
 |some u=>exact r.elim
section
variable {P:cw}{w:World}{H H':Hp}{h h':Heap}{a C dx:Addr}{fs Ny:List (Str×V)}
theorem Oi (hok:HOk P w H h)(e:H a=Z9 (.ins C dx fs)):∃b,rA h a dx C b/\(∀f,cY (fs.lookup f) (b f))/\PySem.Within b (fs.map (·.1))/\fs.length<=1000/\H dx=Z9 (.own a):=by obtain⟨d,z,ne,c,b,n,r,q⟩:=(hok a _ e);exact⟨b,⟨c,n,ne⟩,r,q,z,d⟩
end
structure uI (K:Z5)(C:Addr):Prop where
 pg:W.plainGet K C Str.empty=Z7
 hd:W.hasDictIn K C=Z7
 po:W.plainOver K C=Z7
 sa:W.findIn K (.ref C) "__setattr__"=Z9 (Z9 (.builtin "object.__setattr__"))
theorem uI.get {K:Z5}(c:uI K C)(f:Str):W.plainGet K C f=true:=c.pg
structure Meth (K:Z5)(C:Addr)(m:Str)(f:Addr):Prop where
 at_:W.findIn K (.ref C) m=Z9 (Z9 (.ref f))
 fn:W.isFn K (.ref f)=Z7
 kp:Z4 K (.ref f)=Z7
section
variable {X:Cx}{pins:List (Addr×Obj)}{σ:St}{H:Hp}{s:ay}{a C dx:Addr}{fs:List (Str×V)}{f:Str}{v:V}{A:gk}{E:Value->ay->Prop}
end
section
variable {X:Cx}{pins:List (Addr×Obj)}{σ:St}{H:Hp}{s:ay}{A:gk}{E:Value->ay->Prop}{Q:Value->ay->Prop}{c:Value}{b:Bool}
inductive TyOf (K:Z5)(H:Hp):V->Value->Prop where
 |bG:TyOf K H .bG (.type "NoneType")
 |bl (x:Bool):TyOf K H (.bl x) (.type "bool")
 |int (i:Int):TyOf K H (.int i) (.type "int")
 |str (x:Str):TyOf K H (.str x) (.type "str")
 |lst {a:Addr} {xs:List V} (e:H a=Z9 (.lst xs)):TyOf K H (.ref a) (.type "list")
 |frz {a:Addr} {o:Obj} {xs:List V} (e:H a=Z9 (.frz o (.lst xs))):TyOf K H (.ref a) (.type "list")
 |tup {a:Addr} {xs:List V} (e:H a=Z9 (.tup xs)):TyOf K H (.ref a) (.type "tuple")
 |dK {a:Addr} {kvs:List (Key×V)} (e:H a=Z9 (.dK kvs)):TyOf K H (.ref a) (.type "dict")
 |dT {a:Addr} {kvs:List (List Key×V)} (e:H a=Z9 (.dT kvs)):TyOf K H (.ref a) (.type "dict")
 |ins {a C dx:Addr} {fs:List (Str×V)} (e:H a=Z9 (.ins C dx fs)) (cl:uI K C) (ha:W.findIn K (.ref C) "__class__"=Z9 (Z9 (.builtin "object.__class__")))
  (hn:W.specialIn K (.builtin "object.__class__") "__get__"=Z9 (Z9 (.builtin "getset_descriptor.__get__"))) (Ye:W.takesIn K (.builtin "object.__class__")=Z9 Z7)
  (hm:W.mroIn K C (.type "object")=Z9 Z7):TyOf K H (.ref a) (.ref C)
theorem z2k (I:Inv X pins σ H s)(f:RelV x u)(ty:TyOf X.K H x t)(e:W.kitOne X.K t c=Z9 b)(h:∀r,Q (.bool b) {s with toks:=r}):
  wpAny (model X.prog X.w) A (call (.builtin "isinstance") [u,c]) Q E s:=by
 cases ty with
 |bG=>cases f;exact Z3 W.kitx_none I.fR True.intro e (λz=>nomatch z) h
 |bl y=>cases f;exact Z3 W.kitx_bool I.fR True.intro e (λz=>nomatch z) h
 |int i=>obtain⟨t,q⟩:=f;cases q;exact Z3 W.kitx_int I.fR True.intro e (λz=>nomatch z) h
 |str y=>obtain⟨t,q⟩:=f;cases q;exact Z3 W.kitx_str I.fR True.intro e (λz=>nomatch z) h
 | @lst a k d=>cases f;obtain⟨_,_,n,_,g⟩:=(I.hok a _ d);exact Z3 W.kitx_list I.fR ⟨_,g,rfl⟩ e (λz=>nomatch z) h
 | @frz a v k d=>cases f;obtain⟨_,_,_,n,_,g⟩:=(I.hok a _ d);exact Z3 W.kitx_list I.fR ⟨_,g,rfl⟩ e (λz=>nomatch z) h
 | @tup a k d=>cases f;obtain⟨_,_,_,p⟩:=(I.hok a _ d);obtain⟨o,g,j,_⟩:=p.tup;exact Z3 W.kitx_tuple I.fR ⟨o,g,j⟩ e (λz=>nomatch z) h
 | @dK a l d=>cases f;obtain⟨_,_,B,_,⟨o,es,ep,g,j,_⟩⟩:=(I.hok a _ d);exact Z3 W.kitx_dict I.fR ⟨o,g,j.1⟩ e (λz=>nomatch z) h
 | @dT a l d=>cases f;obtain⟨_,_,k,_,o,es,ep,g,j,_⟩:=(I.hok a _ d);exact Z3 W.kitx_dict I.fR ⟨o,g,j.1⟩ e (λz=>nomatch z) h
 | @ins a C D fs d cl ha hn m hm=>cases f;obtain⟨F,O,_⟩:=Oi I.hok d;obtain⟨od,J,_⟩:=O.look;exact Z3 (W.kitx_own (cl.get _) cl.hd ha hn m hm) I.fR J e (λz=>nomatch z) h
end
structure Room (k:Nat)(A:gk):Prop where
 hd:A.handled=Z8
 dp:A.depth+3*k+5<recursionLimit
 un:A.units+16*k+200<cLine
 gd:A.guards=Z9 []
theorem Room.mono (r:Room k A)(h:j<=k):Room j A:=⟨r.hd,by have:=r.dp;omega,by have:=r.un;omega,r.gd⟩
theorem Room.deeper (r:Room (k+1) A)(env:Env):Room k (A.deeper env):=⟨r.hd,by have:=r.dp;show A.depth+1+3*k+5<_;omega,by have:=r.un;show A.units+3+16*k+200<_;omega,r.gd⟩
theorem Room.depth (r:Room k A):A.depth<recursionLimit:=by have:=r.dp;omega
theorem Room.units (r:Room k A):A.units+64<cLine:=by have:=r.un;omega
def fC:TA:=λ_ H Q=>Q [] H
def lP (ta:TE)(tr:TA):TA:=λσ H Q=>ta σ H λx H1=>tr σ H1 λxs H2=>Q (x::xs) H2
section
variable {X:Cx}{e:Expr}{es:List Expr}{te:TE}{t:TA}{pos:Pos}
theorem iR:PA X [] fC:=λ_ _ _ _ H Q I h=>Calls.spliced_nil ⟨[],H,I,.nil,h⟩
theorem Oj (ha:PE X e te)(hr:PA X es t)(hs:eo (e::es) X.env=(Z6,eval e X.env)::eo es X.env:=by rfl):PA X (e::es) (lP te t):=by intro pos a s b H Q I h;rw[hs];refine Calls.spliced_cons (aN (ha a s b H _ I h) λu c ⟨x,d,f,g,i⟩=>?_);exact aN (hr pos a c b d _ f i) λo p ⟨j,k,l,m,n⟩=>⟨x::j,k,l,.cons g m,n⟩
def wV (t:TA):TE:=λσ H Q=>t σ H λxs H1=>xs.length<=bb/\∀p,H1 p=Z8->Q (.ref p) (upd H1 p (.tup xs))
def wW (t:TA):TE:=λσ H Q=>t σ H λxs H1=>xs.length<=bb/\∀p,H1 p=Z8->Q (.ref p) (upd H1 p (.lst xs))
theorem Ht {f}(h:PA X es t):PE X (.Tuple es f pos) (wV t):=by intro a s g H Q I i;refine wpAny_Tuple_spliced (aN (h pos a s g H _ I i) λj c ⟨k,l,d,r,z,q⟩=>⟨by rw[<-r.length];exact z,?_⟩);refine⟨.ref c.heap.objs.size,upd l c.heap.objs.size (.tup k),d.laid (λb u e=>ah _ e) (af _) ?_,rfl,q _ (d.hok.fresh (af _))⟩;exact⟨z,j,r,⟨_,ax _ rfl⟩⟩
theorem Ca (h:PA X es t):PE X (.List es pos) (wW t):=by intro a s f H Q I g;refine wpAny_List_spliced (aN (h pos a s f H _ I g) λi c ⟨j,k,d,r,z,q⟩=>⟨by rw[<-r.length];exact z,?_⟩);refine⟨.ref c.heap.objs.size,upd k c.heap.objs.size (.lst j),d.laid (λb u e=>ah _ e) (af _) ?_,rfl,q _ (d.hok.fresh (af _))⟩;exact⟨z,i,0,r,ax _ rfl⟩
end
abbrev Sp:=List V->Hp->VK->XK->Prop
abbrev CXT:=List Env->Hp->ay->XK->Value->ay->Prop
structure rB (P:cw)(w:World)(K:Z5)(mg:Str->Option Value)(base:Heap)(A:gk)(outer:List Env)(s:ay)(H:Hp):Prop where
 frames:A.frames=Z9 outer
 mod:Mod K mg base
 bs:∀b o,base.get? b=Z9 o->s.heap.get? b=Z9 o/\H b=Z8
 kK:base.objs.size<=s.heap.objs.size
 eB:s.heap.FunFrames base outer
 qW:∀b∈frs outer,H b=Z8
 hok:HOk P w H s.heap
 bare:ow s.gens
def CE (outer:List Env)(P:cw)(w:World)(H:Hp)(s:ay)(Q:VK)(u:Value)(s':ay):Prop:=∃v H',s'.os=s.os/\ow s'.gens/\Un (frs outer) [] H H' s.heap s'.heap/\HOk P w H' s'.heap/\RelV v u/\Q v H'
def CR (CX:CXT)(outer:List Env)(P:cw)(w:World)(H:Hp)(s:ay)(Q:VK)(E:XK)(r:Result)(s':ay):Prop:=
 match r with
 |.ok (.ret u)=>CE outer P w H s Q u s'
 |.ok _=>False
 |.error e=>CX outer H s E e s'
structure FnOk (P:cw)(w:World)(K:Z5)(mg:Str->Option Value)(base:Heap)(CX:CXT)(k:Nat)(f:Addr)(fd:ja)(ps:List Str)(sp:Sp):Prop where
 len:∀vs H Q E,sp vs H Q E->vs.length=ps.length
 run:∀(A:gk) (outer:List Env) (s:ay) (H:Hp) (args:Args) (us:List Value) (vs:List V) (Q:VK) (E:XK),Room k A->rB P w K mg base A outer s H->sj s fd args (ps.zip us)->Vals vs us->sp vs H Q E->nc (model P w) A (.call (.ref f) args) (CR CX outer P w H s Q E) s
section
variable {X:Cx}{pins:List (Addr×Obj)}{σ:St}{H:Hp}{s s':ay}
theorem Inv.Cb (I:Inv X pins σ H s):rB X.prog X.w X.K X.mg X.base X.A X.stack s H:=⟨I.ok.frames,I.ok.mod,I.bs,a8 I.ok.kK I.sz,I.stack,I.iQ,I.hok,I.bare⟩
theorem Inv.after (I:Inv X pins σ H s)(h:CE X.stack X.prog X.w H s Q u s'):EP X pins σ Q u s':=by obtain⟨v,c,os,bare,un,hok,r,q⟩:=h;obtain⟨e,g,d,t,a⟩:=s';obtain rfl:a=s.os:=os;exact⟨v,c,I.call un hok bare (λb z=>absurd z (by simp)),r,q⟩
end
def rC (sp:Sp)(dvs:List V)(E:XK)(t:TA):TE:=λσ H Q=>t σ H λvs H1=>sp (vs++dvs) H1 Q E
def Binds (K:Z5)(fd:ja)(ps:List Str)(ds:List Value):Prop:=∀(s:ay) (us:List Value),K.In s.heap->(us++ds).length=ps.length->sj s fd ⟨us,[]⟩ (ps.zip (us++ds))
theorem Binds.all {K:Z5}(h:∀a,a.length=ps.length->wp fd ⟨a,[]⟩=pure (ps.zip a)):Binds K fd ps []:=λs a _ hl=>by rw[ce]at hl ⊢;exact .of_eq (h a hl)
def zaj (CX:CXT)(X:Cx)(E:XK):Prop:=∀(pins:List (Addr×Obj)) (σ:St) (H:Hp) (s:ay) (e:Value) (s':ay),Inv X pins σ H s->CX X.stack H s E e s'->X.xe e s'
section
variable {X:Cx}{CX:CXT}{k:Nat}{f C:Addr}{fd:ja}{ps:List Str}{sp:Sp}{dvs:List V}{ds:List Value}{E:XK}{x m:Str}{p pos apos:Pos}{e o:Expr}{es:List Expr}{ta:TE}{t:TA}
theorem zsk (F:FnOk X.prog X.w X.K X.mg X.base CX k f fd ps sp)(hr:Room k X.A)(hb:Binds X.K fd ps ds)(hd:Vals dvs ds)(hx:zaj CX X E)
  (I:Inv X a d H s) (r:Vals g c) (h:sp (g++dvs) H Q E):wpAny (model X.prog X.w) X.A (call (.ref f) c) (EP X a d Q) X.xe s:=by
 have i:=r.append hd;refine wq (nh (F.run X.A X.stack s H ⟨c,[]⟩ (c++ds) (g++dvs) Q E hr I.Cb (hb s c I.fR (i.length▸F.len _ _ _ _ h)) i h) λr j b=>?_);cases r with
 |error e=>exact hx a d H s e j I b
 |ok l=>
  cases l with
  |ret u=>exact I.after b
  |next=>exact False.elim b
  |brk=>exact False.elim b
  |cont=>exact False.elim b
theorem zd4 (F:FnOk X.prog X.w X.K X.mg X.base CX k f fd ps sp)(hr:Room k X.A)(g:Gl X x)(hm:X.mg x=Z9 (.ref f))(hk:Z4 X.K (.ref f)=Z7)(hb:Binds X.K fd ps ds)(hd:Vals dvs ds)(hx:zaj CX X E)
  (ha:PA X (e::es) t) (b:YC x:=by decide) (i:eo (e::es) X.env=(Z6,eval e X.env)::eo es X.env:=by rfl) (c:(nz pos (eo es X.env)).any (·.1)=false:=by rfl):
  PE X (.Call (.Name x p) (e::es) [] pos) (rC sp dvs E t):=by
 intro a s j H Q I h;refine n6 (zf3 I g hm ?_ b);refine W.callWith_K I.ok.mod.BH hk (aN (ha pos a s j H _ I h) λl m ⟨n,o,d,r,q⟩=>⟨d.fR,?_⟩) i c;exact zsk F hr hb hd hx d r q
structure Mk (K:Z5)(C f:Addr):Prop where
 makes:W.makesIn K C=Z7
 init:W.findIn K (.ref C) "__init__"=Z9 (Z9 (.ref f))
 fn:W.isFn K (.ref f)=Z7
 kp:Z4 K (.ref C)=Z7
end
def PK (X:Cx)(Hu:List sr)(t:TA):Prop:=∀(pos:Pos) (pins:List (Addr×Obj)) (s:ay) (σ:St) (H:Hp) (Q:List V->Hp->Prop),Inv X pins σ H s->t σ H Q->wpAny (model X.prog X.w) X.A (evalAll ((backToKw pos (vy Hu X.env)).map (·.2))) (AP X pins σ Q) X.xe s
section
variable {X:Cx}{CX:CXT}{k:Nat}{f C:Addr}{fd:ja}{ps ks:List Str}{sp:Sp}{E:XK}{x m:Str}{p pos apos Ol:Pos}{e o:Expr}{es:List Expr}{Hu:List sr}{te ta:TE}{t tk:TA}{nm:Option Str}
structure rD (K:Z5)(fd:ja)(ps ks:List Str)(g:List Value->List Value->List Value)(gV:List V->List V->List V):Prop where
 to:∀(s:ay) (us ws:List Value),K.In s.heap->(g us ws).length=ps.length->sj s fd ⟨us,ks.zip ws⟩ (ps.zip (g us ws))
 rel:∀{vs:List V} {us:List Value} {zs:List V} {ws:List Value},Vals vs us->Vals zs ws->Vals (gV vs zs) (g us ws)
variable {g:List Value->List Value->List Value}{gV:List V->List V->List V}
end
structure FnScope (N P:List Str)(sc:Scope):Prop where
 kind:sc.kind=.function
 co:sc.isCoroutine=Z6
 gen:sc.isGenerator=Z6
 nd:N.Nodup
 pre:N.take P.length=P
 par:∀x∈P,sc.names.lookup x=Z9 .local\/sc.names.lookup x=Z9 .cell
 rE:∀y∈sc.names,y.2≠.free
theorem Hv {a:Str->Option ir}:∀{binds:List (Str×Value)} {m:Str->Option Value},(∀v,(x,v)∉binds)->bindL a binds m x=m x
 | [],_,_=>rfl
 |(n,v)::r,m,h=>by
  unfold bindL;rw[Hv λw b=>h w (b0 _ b)];split
  .have :x≠n:=by rintro rfl;exact h v bj
   simp[this]
  .rfl
theorem Hw {a:Str->Option ir}:∀{binds:List (Str×Value)} {m:Str->Option Value},(∀v,(x,v)∉binds)->bindC a binds m x=m x
 | [],_,_=>rfl
 |(n,v)::r,m,h=>by
  unfold bindC;rw[Hw λw b=>h w (b0 _ b)];split
  .rfl
  .have :x≠n:=by rintro rfl;exact h v bj
   simp[this]
theorem z7k {a:Str->Option ir}:∀{P:List Str} {b:List Value} {i:Nat} {m:Str->Option Value},P.Nodup->P[i]?=Z9 x->b[i]?=Z9 v->a x=Z9 .local->
  bindL a (P.zip b) m x=Z9 v
 | [],_,_,_,_,h,_,_=>by simp at h
 |_::_,[],_,_,_,_,h,_=>by simp at h
 |p::P,w::b,0,m,nd,c,d,hk=>by simp at c d;subst c;subst d;show bindL a ((p,w)::P.zip b) m p=_;unfold bindL;rw[Hv λv e=>(ci.mp nd).1 (g8 e).1,xh hk];simp
 |p::P,w::b,i+1,m,nd,c,d,hk=>by show bindL a ((p,w)::P.zip b) m x=_;exact z7k (ci.mp nd).2 (by simpa using c) (by simpa using d) hk
theorem z74 {a:Str->Option ir}:∀{P:List Str} {b:List Value} {i:Nat} {m:Str->Option Value},P.Nodup->P[i]?=Z9 x->b[i]?=Z9 v->a x≠Z9 .local->
  bindC a (P.zip b) m x=Z9 v
 | [],_,_,_,_,h,_,_=>by simp at h
 |_::_,[],_,_,_,_,h,_=>by simp at h
 |p::P,w::b,0,m,nd,c,d,hk=>by simp at c d;subst c;subst d;show bindC a ((p,w)::P.zip b) m p=_;unfold bindC;rw[Hw λv e=>(ci.mp nd).1 (g8 e).1,xk hk];simp
 |p::P,w::b,i+1,m,nd,c,d,hk=>by show bindC a ((p,w)::P.zip b) m x=_;exact z74 (ci.mp nd).2 (by simpa using c) (by simpa using d) hk
def start (N:List Str)(vs:List V):St:=vs.map Z9++bc (N.length-vs.length) Z8
def iA (CX:CXT)(P:cw)(w:World)(K:Z5)(mg:Str->Option Value)(base:Heap)(N:List Str)(qual:Str)(scope:Scope)(f:Addr)(cd:Value)(A:gk)(outer:List Env)(s:ay)(H:Hp)(E:XK):Cx where
 prog:=P
 w:=w
 K:=K
 mg:=mg
 base:=base
 A:=A.deeper (qy qual scope s.heap.objs.size f cd)
 N:=N
 bH:=s
 lH:=H
 env:=qy qual scope s.heap.objs.size f cd
 outer:=outer
 stack:=qy qual scope s.heap.objs.size f cd::outer
 ex:=[]
 calm:=Z7
 fn:=λ_=>Z7
 pn:=[]
 xe:=λe s'=>wpAny (model P w) (A.deeper (qy qual scope s.heap.objs.size f cd)) (leaving (qy qual scope s.heap.objs.size f cd) e) (λ_ zO=>CX outer H s E e zO) (λe' zO=>CX outer H s E e' zO) s'
theorem Hx {sc:Scope}(h:sc.names.lookup x=Z9 .cell):∃c,(cellsFrom n sc.names []).lookup x=Z9 c:=by exact pb.mp (W.cellsFrom_some sc.names n [] (.inl h))
theorem zdz {K:Z5}
  (S:FnScope N ps scope) (hd:A.handled=Z8) (j:rB P w K mg base A outer s H) (hl:n.length=ps.length) (r:Vals n D)
  (x:InCallC s s.heap.objs.size (bindL (qy g scope s.heap.objs.size f cd).kindOf (ps.zip D) λ_=>Z8) (cellsFrom (s.heap.objs.size+1) scope.names []) (bindC (qy g scope s.heap.objs.size f cd).kindOf (ps.zip D) λ_=>Z8) F):
  Inv (iA G P w K mg base N g scope f cd A outer s H E) [] (start N n) H F:=by
 have I:=by have:=congrArg qz S.pre;rw[db]at this;omega
 obtain⟨B,J,rfl,hk⟩:=x.done;have l:∀b,b∉(iA G P w K mg base N g scope f cd A outer s H E).ex:=λb z=>absurd (show b∈([]:List Addr)from z) (by simp);refine⟨⟨j.mod,S.kind,rfl,rfl,af _,λy z c B d=>?_,λy m=>?_,λy c _ h=>?_,λ_=>hd,Around.frames_deeper j.frames,.inr ⟨rfl,rfl⟩,λb z=>absurd z (l b),j.bs,j.kK,λb _ _=>l b,λb z=>absurd z (l b),j.eB,j.qW,λ_ _ z=>by cases z⟩,rfl,j.bare,Un.kept hk,⟨_,x.toInCall.ns,λi y v B d L=>?_⟩,λy c h=>⟨_,x.cell y c h⟩,j.hok.fresh (af _),λy c h=>?_,λp o=>absurd (show p∈([]:List (Addr×Obj))from o) (by simp),j.hok.kept hk,?_,λ_ _ z=>by cases z⟩
 .exact name_of_addr x.apart (PySem.mem_of_lookup B) (PySem.mem_of_lookup d)
 .have m:scope.names.lookup y=Z9 .cell\/scope.names.lookup y=Z9 .free:=m;rcases m with m|m
  .exact Hx m
  .exact absurd rfl (S.rE _ (PySem.mem_of_lookup m))
 .exact jx (x.above y c (PySem.mem_of_lookup h))
 .have C:i<n.length:=by
   unfold start at d;by_cases C:i<n.length
   .exact C
   .rw[jv (by simpa using C)]at d;rw[du]at d;split at d<;>cases d
  have ha:n[i]?=Z9 v:=by
   unfold start at d;rw[iw (by simpa using C),ba]at d;cases e:n[i]? with
   |none=>rw[e]at d;cases d
   |some a=>rw[e]at d;cases d;rfl
  obtain⟨u,hu,rv⟩:=r.get ha;have o:ps[i]?=Z9 y:=by rw[<-S.pre,List.getElem?_take_of_lt (by omega)];exact B
  have t:ps.Nodup:=S.pre▸S.nd.sublist (jq _ _);refine⟨u,rv,?_⟩;rcases S.par y (bn o)with k|k
  .exact .inl ⟨k,z7k t o hu k⟩
  .obtain⟨c,e⟩:=Hx k;refine .inr ⟨.inl k,c,e,?_⟩;have q:=x.cell y c e;rw[z74 t o hu (by show scope.names.lookup y≠_;rw[k];decide)]at q;exact q
 .exact j.hok.fresh (jx (x.above y c (PySem.mem_of_lookup h)))
 .unfold start;show _=N.length;rw[cg,ae,cq];omega
theorem ztb {K:Z5}{kV:Value}
  (M:K.lookup f=Z9 ⟨oc,od,.func (W.fnOf m a params g scope O kV C R an c ct),T⟩) (D:W.codeIn K c a=Z7) (S:FnScope N ps scope)
  (len:∀h H Q E,G h H Q E->h.length=ps.length)
  (j:∀A outer s H h Q E,Room k (A.deeper (qy a scope s.heap.objs.size f c))->G h H Q E->∃t,PSs (iA I P w K mg base N a scope f c A outer s H E) g t/\t {nx:=λ_ i=>Q .bG i,rt:=Q} (start N h) H):
  FnOk P w K mg base I (k+1) f (W.fnOf m a params g scope O kV C R an c ct) ps G:=by
 refine⟨len,λA outer s H args U h Q E hr p hb r z=>?_⟩;have L:=p.mod.BH.keeps λb o e=>(p.bs b o e).1
 have l:∀y∈ps.zip U,scope.names.lookup y.1=Z9 .local\/(scope.names.lookup y.1=Z9 .cell/\((cellsFrom (s.heap.objs.size+1) scope.names []).lookup y.1).isSome=Z7):=λ⟨n,v⟩ X=>by
  rcases S.par n (g8 X).1 with q|q
  .exact .inl q
  .exact .inr ⟨q,W.cellsFrom_some _ _ _ (.inl q)⟩
 refine codeAny_call_function hr.depth (L _ _ M) rfl S.co S.gen rfl (W.codeRec_of L D) (hb _ _ _ _ ?_);refine wpAny_newFunctionEnv_cells S.kind l λenv Y s1 x=>?_;subst Y;refine⟨(p.mod.nolimit.keeps λb o e=>(p.bs b o e).1).keeps x.toInCall.keep,codeAny_func ?_⟩;obtain⟨t,ht,hq⟩:=j A outer s H h Q E (hr.deeper _) z;refine jl (ht [] s1 (start N h) H _ (zdz S hr.hd p (len _ _ _ _ z) r x) hq) (λfl F hs=>?_) λe F hs=>hs;have B:∀{d:St} {i:Hp} {v:V} {u:Value},Inv (iA I P w K mg base N a scope f c A outer s H E) [] d i F->RelV v u->Q v i->CE outer P w H s Q u F:=λ{d i v u} J rv q=>⟨v,i,J.os,J.bare,J.base,J.hok,rv,q⟩;cases fl with
 |ret u=>obtain⟨v,d,i,J,rv,q⟩:=hs;exact B J rv q
 |next=>obtain⟨d,i,J,q⟩:=hs;exact B (v:=V.bG) J rfl q
 |brk=>obtain⟨_,_,_,q⟩:=hs;exact False.elim q
 |cont=>obtain⟨_,_,_,q⟩:=hs;exact False.elim q
section
variable {X:Cx}{x:Str}{p pos:Pos}{e:Expr}{es:List Expr}{t:TA}{id T:String}{r:List V->Hp->VK->Prop}
def jF (r:List V->Hp->VK->Prop)(t:TA):TE:=λσ H Q=>t σ H λvs H1=>r vs H1 Q
theorem zg3 (f:CallR X (.builtin id) r)(g:Gl X x)(hm:X.mg x=Z8)(i:df x=Z9 (.builtin id))(ha:PA X (e::es) t)(hn:x≠"__name__":=by decide)(b:YC x:=by decide)
  (j:eo (e::es) X.env=(Z6,eval e X.env)::eo es X.env:=by rfl) (c:(nz pos (eo es X.env)).any (·.1)=false:=by rfl):PE X (.Call (.Name x p) (e::es) [] pos) (jF r t):=by
 intro a s d H Q I h;refine n6 (z2j I g hm i ?_ hn b);exact PyProof.Rows.callWith_builtin1 (aN (ha pos a s d H _ I h) λk l ⟨m,n,o,q,u⟩=>f a l d n m k Q o q u) j c
theorem zed (f:CallR X (.type T) r)(g:Gl X x)(hm:X.mg x=Z8)(i:df x=Z9 (.type T))(ha:PA X (e::es) t)(hn:x≠"__name__":=by decide)(b:YC x:=by decide)
  (j:eo (e::es) X.env=(Z6,eval e X.env)::eo es X.env:=by rfl) (c:(nz pos (eo es X.env)).any (·.1)=false:=by rfl):PE X (.Call (.Name x p) (e::es) [] pos) (jF r t):=by
 intro a s d H Q I h;refine n6 (z2j I g hm i ?_ hn b);exact PyProof.Rows.callWith_type1 (aN (ha pos a s d H _ I h) λk l ⟨m,n,o,q,u⟩=>f a l d n m k Q o q u) j c
end
section
variable {κ:Type} [DecidableEq κ]
def cJ (kvs:List (κ×V))(k:κ):Option V:=(kvs.find? λkv=>decide (kv.1=k)).map (·.2)
def putK (kvs:List (κ×V))(k:κ)(v:V):List (κ×V):=if(kvs.any λkv=>decide (kv.1=k))=Z7 then kvs.map (λkv=>if kv.1=k then(kv.1,v)else kv)else kvs++[(k,v)]
theorem zP {p:κ×V}(e:p.1=k):cJ (p::r) k=Z9 p.2:=by simp[cJ,dt,e]
theorem zQ {p:κ×V}(e:¬p.1=k):cJ (p::r) k=cJ r k:=by simp[cJ,dt,e]
theorem Hy (k:κ):∀a,(a.any λb=>decide (b.1=k))=(cJ a k).isSome
 | []=>rfl
 |p::r=>by
  rw[jo];by_cases e:p.1=k
  .simp only[zP e,xp e,Bool.true_or,Option.isSome_some]
  .rw[zQ e,xq e];exact Hy k r
theorem zR (a:List (κ×V))(k:κ)(v:V):(putK a k v).length<=a.length+1:=by
 unfold putK;split
 .rw[ae];omega
 .rw[cg,bz,List.length_nil];omega
theorem cY.bT (r:cY o u):o.isSome=u.isSome:=by
 cases o with
 |none=>cases u with
  |none=>rfl
  |some _=>exact r.elim
 |some _=>cases u with
  |none=>exact r.elim
  |some _=>rfl
theorem cY.getD (r:cY o u)(rd:RelV d a):RelV (o.getD d) (u.getD a):=by
 cases o with
 |none=>cases u with
  |none=>exact rd
  |some _=>exact r.elim
 |some _=>cases u with
  |none=>exact r.elim
  |some _=>exact r
theorem KV.val (r:KV a g)(k:κ):cY (cJ a k) (uj g k):=by
 induction r with
 |nil=>exact True.intro
 | @cons p q ps c h t i=>
  obtain⟨f,j⟩:=h;by_cases e:p.1=k
  .have d:q.1=k:=f.symm.trans e;have b:uj (q::c) k=Z9 q.2:=by simp[uj,dt,d]
   rw[zP e,b];exact j
  .have d:¬q.1=k:=λz=>e (f.trans z);have b:uj (q::c) k=uj c k:=by simp[uj,dt,d]
   rw[zQ e,b];exact i
theorem KV.any (r:KV a c)(k:κ):(a.any λb=>decide (b.1=k))=c.any λb=>decide (b.1=k):=by
 induction r with
 |nil=>rfl
 |cons h t d=>rw[jo,jo,d,h.1]
theorem KV.repl (r:KV c d)(k:κ)(f:RelV y u):
  KV (c.map λa=>if a.1=k then(a.1,y)else a) (d.map λa=>if a.1=k then(a.1,u)else a):=by
 induction r with
 |nil=>exact .nil
 | @cons p q ps j h t g=>
  rw[aw,aw];refine .cons ?_ g;obtain⟨b,i⟩:=h;by_cases e:p.1=k
  .rw[xh e,xh (b.symm.trans e)];exact⟨b,f⟩
  .rw[xk e,xk (λz=>e (b.trans z))];exact⟨b,i⟩
theorem KV.put (r:KV a b)(k:κ)(c:RelV y u):KV (putK a k y) (stored b k u):=by
 unfold putK stored;rw[r.any k];by_cases e:(b.any λd=>decide (d.1=k))=Z7
 .rw[xh e,xh e];exact r.repl k c
 .rw[xk e,xk e];exact Paired.snoc r ⟨rfl,c⟩
theorem KV.length (r:KV a vs):a.length=vs.length:=Paired.length r
end
theorem pR (r:RelV (kV k) u):(eM P w).is k u=true:=by
 cases k with
 |inl i=>obtain⟨t,e⟩:=r;subst e;exact Nt P w i t
 |inr x=>obtain⟨t,e⟩:=r;subst e;exact Nu P w x t
theorem Hz:∀{ks:List Key} {a:List Value},Vals (ks.map kV) a->ItemsAre (eM P w) ks a
 | [],_,r=>by rw[il]at r;cases r;exact .nil
 |k::ks,_,r=>by
  cases r with
  |cons h t=>exact .cons (pR h) (Hz t)
abbrev KT (H:Hp):List (List Key×V)->List (List Key×Addr×Value)->Prop:=ji λp q=>p.1=q.1/\H q.2.1=Z9 (.tup (p.1.map kV))/\RelV p.2 q.2.2
theorem KT.val (r:KT H a g)(k:List Key):cY (cJ a k) ((atKey g k).map (·.2)):=by
 induction r with
 |nil=>exact True.intro
 | @cons p q ps c h t i=>
  obtain⟨f,_,j⟩:=h;by_cases e:p.1=k
  .have d:q.1=k:=f.symm.trans e;have b:atKey (q::c) k=Z9 q.2:=by simp[atKey,dt,d]
   rw[zP e,b];exact j
  .have d:¬q.1=k:=λz=>e (f.trans z);have b:atKey (q::c) k=atKey c k:=by simp[atKey,dt,d]
   rw[zQ e,b];exact i
theorem KT.repl (r:KT H b f)(k:List Key)(g:RelV y u):
  KT H (b.map λc=>if c.1=k then(c.1,y)else c) (f.map (putAt k u)):=by
 induction r with
 |nil=>exact .nil
 | @cons p q ps l h t i=>
  rw[aw];refine .cons ?_ i;obtain⟨a,d,j⟩:=h;unfold putAt;by_cases e:p.1=k
  .rw[xh e,xh (a.symm.trans e)];exact⟨a,d,g⟩
  .rw[xk e,xk (λz=>e (a.trans z))];exact⟨a,d,j⟩
theorem KT.put (r:KT H a c)(k:List Key)(hb:H b=Z9 (.tup (k.map kV)))(d:RelV y u):
  KT H (putK a k y) (storedH c k b u):=by
 have e:(a.any λf=>decide (f.1=k))=(atKey c k).isSome:=by rw[Hy,(r.val k).bT,ox]
 unfold putK storedH;rw[e];by_cases q:(atKey c k).isSome=Z7
 .rw[xh q,xh q];exact r.repl k d
 .rw[xk q,xk q];exact Paired.snoc r ⟨rfl,hb,d⟩
theorem KT.keeps (r:KT H a d)(ht:∀b c,H b=Z9 (.tup c)->e b=Z9 (.tup c)):KT e a d:=Paired.qV r λ_ _ z=>⟨z.1,ht _ _ z.2.1,z.2.2⟩
section
variable {P:cw}{w:World}{H:Hp}{h:Heap}{a:Addr}
theorem HB (ok:HOk P w H h)(e:Rd H a u):z0z P w H h a u:=e.ok ok
theorem rG (ok:HOk P w H h)(e:Rd H a (.dK b)):b.length<=bb/\(a==jk)=Z6/\∃c,KV b c/\h.DictOf (eM P w) a c:=show z0z P w H h a (.dK b)from HB ok e
theorem pS (ok:HOk P w H h)(e:H a=Z9 (.dK b)):b.length<=bb/\(a==jk)=Z6/\∃c,KV b c/\h.DictOf (eM P w) a c:=rG ok (.inl e)
theorem uJ (ok:HOk P w H h)(e:H a=Z9 (.tup (ks.map kV))):(p5 (eM P w)).is h ks a:=by obtain⟨_,b,r,n,c⟩:=(ok a _ e);exact⟨_,b.toArray,n,c,rfl,rfl,by simpa using Hz r⟩
theorem zat (ok:HOk P w H h)(e:Rd H a (.dT b)):b.length<=bb/\(a==jk)=Z6/\
  ∃c,KT H b c/\h.DictOfH (p5 (eM P w)) a c:=by
 obtain⟨z,y,c,r,o,es,ep,f,g,i,j,k⟩:=(HB ok e);refine⟨z,y,c,r,o,es,ep,f,g,i,j,λx hx=>?_,k⟩
 have all:∀{l:List (List Key×V)} {m:List (List Key×Addr×Value)},KT H l m->∀x∈m,(p5 (eM P w)).is h x.1 x.2.1:=by
  intro l m q
  induction q with
  |nil=>intro x hx;exact nomatch hx
  | @cons p q ps s d t n=>
   intro x hx;rcases ao.mp hx with e|hx
   .subst e;exact uJ ok (d.1▸d.2.1)
   .exact n x hx
 exact all r x hx
theorem Om (ok:HOk P w H h)(e:H a=Z9 (.dT b)):b.length<=bb/\(a==jk)=Z6/\∃c,KT H b c/\h.DictOfH (p5 (eM P w)) a c:=zat ok (.inl e)
end
def DGet (H:Hp)(a:Addr)(y:V)(r:Option V):Prop:=(∃kvs k,Rd H a (.dK kvs)/\y=kV k/\r=cJ kvs k)\/∃kvs k b,Rd H a (.dT kvs)/\y=.ref b/\H b=Z9 (.tup (k.map kV))/\r=cJ kvs k
def DPut (H:Hp)(a:Addr)(y v:V)(H':Hp):Prop:=
 (∃kvs k,H a=Z9 (.dK kvs)/\y=kV k/\kvs.length<bb/\H'=upd H a (.dK (putK kvs k v)))\/
 ∃kvs k b,H a=Z9 (.dT kvs)/\y=.ref b/\H b=Z9 (.tup (k.map kV))/\kvs.length<bb/\H'=upd H a (.dT (putK kvs k v))
theorem DGet.k {k:Key}(e:H a=Z9 (.dK b)):DGet H a (kV k) (cJ b k):=.inl ⟨b,k,.inl e,rfl,rfl⟩
theorem DPut.k {k:Key}(e:H a=Z9 (.dK b))(hl:b.length<bb):DPut H a (kV k) v (upd H a (.dK (putK b k v))):=.inl ⟨b,k,e,rfl,hl,rfl⟩
section
variable {X:Cx}{pins:List (Addr×Obj)}{σ:St}{H:Hp}{s:ay}{a:Addr}{y v:V}{u r:Value}{o:Option V}{A:gk}{E:Value->ay->Prop}
theorem Inv.big (I:Inv X pins σ H s):jk<s.heap.objs.size:=by exact lm (by decide) ((I.mod.glob.keeps I.bk).lt)
theorem z6x (hu:A.units+1<cLine)(I:Inv X pins σ H s)(g:DGet H a y (Z9 v))(n:RelV y u)(h:∀d o,Inv X pins σ H o->RelV v d->Q d o):
  wpAny (model X.prog X.w) A (qg (.ref a) u) Q E s:=by
 rcases g with⟨f,k,e,i,l⟩|⟨f,k,b,e,i,q,l⟩
 .subst i;obtain⟨z,hd,t,rel,dd⟩:=rG I.hok e;obtain⟨d,j,c⟩:=cY.some_of (l▸rel.val k);exact wpAny_getItem_of (pR n) dd.mapOf j (h d _ (I.tok _) c)
 .subst i;cases n;obtain⟨z,hd,x,rel,dd⟩:=zat I.hok e;obtain⟨d,j,c⟩:=cY.some_of (l▸rel.val k);obtain⟨p,r,m⟩:=bu.mp j;refine wpAny_getItem_heap (jm hu) (uJ I.hok q) dd r ?_;rw[m];exact h d _ (I.tok _) c
theorem d_in (hu:A.units+1<cLine)(I:Inv X pins σ H s)(g:DGet H a y o)(f:RelV y u)(h:∀i,Inv X pins σ H i->Q (.bool o.isSome) i):
  wpAny (model X.prog X.w) A (eh .In u (.ref a)) Q E s:=by
 rcases g with⟨c,k,e,d,l⟩|⟨c,k,b,e,d,j,l⟩
 .subst d;obtain⟨z,hd,m,rel,dd⟩:=rG I.hok e;refine wpAny_in_of (pR f) hd dd.mapOf ?_;rw[<-(rel.val k).bT,<-l];exact h _ (I.tok _)
 .subst d;cases f;obtain⟨z,hd,n,rel,dd⟩:=zat I.hok e;refine wpAny_in_heap (jm hu) (uJ I.hok j) hd dd ?_;have q:=(rel.val k).bT;rw[ox]at q;rw[<-q,<-l];exact h _ (I.tok _)
theorem zn2 (hu:A.units+1<cLine)(I:Inv X pins σ H s)(g:DGet H a y o)(f:RelV y u)(h:∀i,Inv X pins σ H i->Q (.bool (!o.isSome)) i):
  wpAny (model X.prog X.w) A (eh .NotIn u (.ref a)) Q E s:=by
 rcases g with⟨c,k,e,d,l⟩|⟨c,k,b,e,d,j,l⟩
 .subst d;obtain⟨z,hd,m,rel,dd⟩:=rG I.hok e;refine wpAny_notIn_of (pR f) hd dd.mapOf ?_;rw[<-(rel.val k).bT,<-l];exact h _ (I.tok _)
 .subst d;cases f;obtain⟨z,hd,n,rel,dd⟩:=zat I.hok e;refine wpAny_notIn_heap (jm hu) (uJ I.hok j) hd dd ?_;have q:=(rel.val k).bT;rw[ox]at q;rw[<-q,<-l];exact h _ (I.tok _)
theorem z4p (I:Inv X pins σ H s)(mu:Mut (H a))(hs:cy a s.heap c)(e:∃q,c.get? a=Z9 q)(new:z0z X.prog X.w (upd H a d) c a d):
  Inv X pins σ (upd H a d) {s with heap:=c,toks:=t'}:=
 I.write mu (.inl rfl) (λb q hb z=>(hs.2 b hb).trans z) e new
theorem zS (z:b.length<=bb)(hd:(a==jk)=Z6)(rel:KV b c)(dd:d.DictOf (eM P w) a c): z0z P w e d a (.dK b):=⟨z,hd,c,rel,dd⟩
theorem zc3 (hu:A.units+1<cLine)(I:Inv X pins σ H s)(g:DPut H a y v B)(n:RelV y u)(rv:RelV v r)(h:∀o,Inv X pins σ B o->Q () o):
  wpAny (model X.prog X.w) A (setItem (.ref a) u r) Q E s:=by
 rcases g with⟨f,k,e,j,l,m⟩|⟨f,k,b,e,j,p,l,m⟩
 .subst j m;obtain⟨z,hd,C,rel,dd⟩:=pS I.hok e;have t:C.length<=bb:=rel.length▸z;exact wpAny_setItem_pairs (hsz:=t) (pR n) dd λD d hs=>h _ (z4p I (e▸True.intro) hs (let⟨q,_,_,i,_⟩:=d;⟨q,i⟩) (zS (by have:=zR f k v;omega) hd (rel.put k rv) d))
 .subst j m;cases n;obtain⟨z,hd,F,rel,dd⟩:=Om I.hok e;have t:F.length<=bb:=Paired.length rel▸z;refine wpAny_setItem_heap (jm hu) (uJ I.hok p) dd λD d hs=>h _ ?_;obtain⟨q,es,ep,i,G,J,K,_,L⟩:=d;refine z4p I (e▸True.intro) hs ⟨q,i⟩ ⟨(by have:=zR f k v;omega),hd,_,(rel.put k p rv).keeps λc M x=>?_,q,es,ep,i,G,J,K,L⟩;rw[aA (Nv x e (λz=>nomatch z))];exact x
end
section
variable {X:Cx}{pins:List (Addr×Obj)}{σ:St}{H:Hp}{s:ay}{a:Addr}{kvs:List (Key×V)}{k:Key}{u:Value}{A:gk}{E:Value->ay->Prop}
theorem Oq (I:Inv X pins σ H s)(e:H a=Z9 (.dK kvs))(h:∀c,Inv X pins σ (upd H a (.dK [])) c->Q .none c):wpAny (model X.prog X.w) A (call (.builtin "dict.clear") [.ref a]) Q E s:=by obtain⟨z,hd,d,rel,dd⟩:=pS I.hok e;refine ul PySem.F.slot_dict_clear dd.typeIs PySem.F.entry_dict_clear (PySem.F.args_dict_clear_1 _) (meets_dict_clear (eM X.prog X.w) a) ⟨d,dd,by rw[<-rel.length];exact z,λf b hs=>h _ ?_⟩;exact z4p I (e▸True.intro) hs (let⟨q,_,_,hq,_⟩:=b;⟨q,hq⟩) (zS (be _) hd .nil b)
theorem Ot (I:Inv X pins σ H s)(e:Rd H a (.dK kvs))(h:∀t b,Inv X pins σ H b->Q (.int kvs.length t) b):wpAny (model X.prog X.w) A (call (.builtin "len") [.ref a]) Q E s:=by obtain⟨z,hd,c,rel,dd⟩:=rG I.hok e;refine call_len_dict hd dd (by rw[<-rel.length];rw[bt]at z;omega) ?_;rw[<-rel.length];exact h _ _ (I.tok _)
end
def rH (i:Expr):Prop:=∀ov iv,q9 i Z6 ov iv=operate [ov,iv] (qg ov iv)
theorem zma {id:String}
  (hl:wu (.type T) "__getitem__"=pure (Z9 (.builtin id))) (hs:rH slice)
  (h:wpAny (model prog w) A (eval value env) (λo c=>wpAny (model prog w) A (eval slice env) (λi a=>a.TypeIs o T/\wpAny (model prog w) A (qg o i) Q E a) E c) E s):
  wpAny (model prog w) A (eval (.Subscript value slice pos) env) Q E s:=by
 refine wv (jl h (λo c f=>jl f (λi a b=>?_) λ_ _ x=>x) λ_ _ x=>x);obtain⟨j,b⟩:=b;refine ac (ac (wpAny_specialOf j hl ?_));have e:wpAny (model prog w) A (q9 slice Z6 o i) (λr d=>wpAny (model prog w) A (letTemporaryGo value o r>>=λ_=>pure r) Q E d) E a:=by rw[hs o i];exact wpAny_operating (jl b (λr d g=>ac (wpAny_letTemporaryGo (ar g))) λ_ _ x=>x)
 first
  |exact ar (ac e)
  |exact ac (ar (ac e))
  |exact ac e
theorem HC (I:Inv X d f H s)(g:DGet H a y o):s.TypeIs (.ref a) "dict":=by
 rcases g with⟨c,k,e,_,_⟩|⟨c,k,b,e,_,_,_⟩
 .obtain⟨_,_,h,_,dd⟩:=rG I.hok e;exact dd.typeIs
 .obtain⟨_,_,i,_,dd⟩:=zat I.hok e;exact dd.typeIs
def HD (td ty:TE):TE:=λσ H Q=>td σ H λx H1=>ty σ H1 λy H2=>∃a v,x=.ref a/\DGet H2 a y (Z9 v)/\Q v H2
section
variable {X:Cx}{o i e value:Expr}{pos pos' Ou:Pos}{td ty tv:TE}
theorem Ov (hu:X.A.units+1<cLine)(ho:PE X o td)(f:PE X i ty)(hs:rH i):PE X (.Subscript o i pos) (HD td ty):=by intro b s d H Q I h;refine zma PySem.F.slot_dict_getitem.lookup hs (aN (ho b s d H _ I h) λu j ⟨x,k,l,m,n⟩=>aN (f b j d k _ l n) λw z ⟨y,p,e,q,a,v,ex,g,r⟩=>?_);subst ex;obtain rfl:u=ZU a:=m;exact⟨HC e g,z6x hu e g q λB C t c=>⟨v,p,t,c,r⟩⟩
end
theorem Cc (h:Heap)(hb:jk<h.objs.size):z0z P w H (h.push {cls:=.type "dict",data:=.dict #[]}) h.objs.size (.dK []):=⟨be _,beq_eq_false_iff_ne.mpr (Ne.symm (cx hb)),[],.nil,Heap.DictOf.new h⟩
def HE:TE:=λ_ H Q=>∀p,H p=Z8->Q (.ref p) (upd H p (.dK []))
section
variable {X:Cx}{pos:Pos}
theorem HF:PE X (.Dict [] [] pos) HE:=λa s b H Q I h=>wpAny_Dict_empty ⟨.ref s.heap.objs.size,_,I.laid (λ_ _ q=>ah _ q) (af _) (Cc s.heap I.big),rfl,h _ (I.hok.fresh (af _))⟩
end
def Cd:List (TE×TE)->St->Hp->(List (V×V)->Hp->Prop)->Prop
 | [],_,H,Q=>Q [] H
 |(tk,tv)::r,σ,H,Q=>tk σ H λx H1=>tv σ H1 λy H2=>Cd r σ H2 λps H3=>Q ((x,y)::ps) H3
abbrev VV:List (V×V)->List (Value×Value)->Prop:=ji λp q=>RelV p.1 q.1/\RelV p.2 q.2
def PPs (X:Cx)(pos:Pos)(keys:List (Option Expr))(values:List Expr)(Ce:List (TE×TE)):Prop:=∀(pins:List (Addr×Obj)) (s:ay) (σ:St) (H:Hp) (Q:List (V×V)->Hp->Prop),Inv X pins σ H s->Cd Ce σ H Q->wpAny (model X.prog X.w) X.A (evalPairs (pairTrees keys values X.env pos)) (λvs s'=>∃ps H',Inv X pins σ H' s'/\VV ps vs/\Q ps H') X.xe s
theorem Ow:PPs X pos [] [] []:=λa s b H Q I h=>pairTrees_nil_walk ⟨[],H,I,.nil,h⟩
theorem zg1 (hk:PE X k d)(e:PE X v tv)(hr:PPs X pos ks f b):
  PPs X pos (Z9 k::ks) (v::f) ((d,tv)::b):=λa s c H Q I h=>
 pairTrees_cons_walk (aN (hk a s c H _ I h) λu g ⟨x,i,j,l,m⟩=>aN (e a g c i _ j m) λA n ⟨y,o,p,q,r⟩=>aN (hr a n c o _ p r) λws B ⟨ps,t,w,rel,z⟩=>⟨(x,y)::ps,t,w,.cons ⟨l,q⟩ rel,z⟩)
def uK (kvs more:List (Key×V)):List (Key×V):=more.foldl (λacc kv=>putK acc kv.1 kv.2) kvs
theorem KV.merge:∀{a:List (Key×V)} {d:List (Key×Value)} {b:List (Key×V)} {c:List (Key×Value)},KV a d->KV b c->KV (uK b a) (merged c d):=by
 intro a d b c r
 induction r generalizing b c with
 |nil=>intro q;exact q
 | @cons p q ps i h t f=>
  intro g;have e:KV (putK b p.1 p.2) (stored c q.1 q.2):=by have:=g.put p.1 h.2;rw[<-h.1];exact this
  exact f e
theorem HG:∀b a,(uK a b).length<=a.length+b.length
 | [],a=>by show a.length<=a.length+0;omega
 |p::r,a=>by have c:=HG r (putK a p.1 p.2);have d:=zR a p.1 p.2;show(uK (putK a p.1 p.2) r).length<=_;rw[bz];omega
theorem HH:∀{d:List (Key×V)} {ws:List (Value×Value)},VV (d.map λf=>(kV f.1,f.2)) ws->∃e,Carries (eM P w) ws e/\KV d e
 | [],_,r=>by rw[il]at r;cases r;exact⟨[],True.intro,.nil⟩
 |p::d,_,r=>by
  cases r with
  | @cons a b i bs h t=>obtain⟨e,c,q⟩:=HH t;obtain⟨j,g⟩:=b;exact⟨(p.1,g)::e,⟨pR h.1,rfl,c⟩,.cons ⟨rfl,h.2⟩ q⟩
def HI (Ce:List (TE×TE)):TE:=λσ H Q=>∀p,H p=Z8->Cd Ce σ (upd H p (.dK [])) λps H2=>H2 p=Z9 (.dK [])/\∃kvs:List (Key×V),ps=kvs.map (λkv=>(kV kv.1,kv.2))/\kvs.length<=15/\Q (.ref p) (upd H2 p (.dK (uK [] kvs)))
theorem zmc (h:PPs X pos keys values g)(a:keys.all (·.isSome)=Z7)(hl:keys.length=values.length)(h0:keys≠[])
  (i:keys.length<=15):PE X (.Dict keys values pos) (HI g):=by
 intro b s k H Q I q;refine wpAny_Dict_walk (knd:=eM X.prog X.w) a hl h0 i (aN (h b _ k _ _ (I.laid (t':=s.toks) (λ_ _ q=>ah _ q) (af _) (Cc s.heap I.big)) (q _ (I.hok.fresh (af s.heap.objs.size)))) λws t ⟨ps,u,j,rel,e,d,ep,v,l⟩=>?_);subst ep;obtain⟨m,c,rk⟩:=HH rel;obtain⟨z,hd,n,o,dd⟩:=pS j.hok e;cases o;refine⟨m,c,dd,λx f hs=>⟨.ref s.heap.objs.size,_,?_,rfl,l⟩⟩;have p:(uK [] d).length<=bb:=by have r:=HG d [];rw[List.length_nil]at r;rw[bt];omega
 exact z4p j (e▸True.intro) hs (let⟨q,_,_,hq,_⟩:=f;⟨q,hq⟩) (zS p hd (rk.merge .nil) f)
section
variable {X:Cx}{pins:List (Addr×Obj)}{σ:St}{H:Hp}{s:ay}{a:Addr}{y d:V}{u r:Value}{o:Option V}{A:gk}{E:Value->ay->Prop}
theorem zp8 (hu:A.units+1<cLine)(I:Inv X pins σ H s)(g:DGet H a y o)(i:RelV y u)(rd:RelV d r)(h:∀j m,Inv X pins σ H m->RelV (o.getD d) j->Q j m):
  wpAny (model X.prog X.w) A (call (.builtin "dict.get") [.ref a,u,r]) Q E s:=by
 rcases g with⟨c,k,e,f,l⟩|⟨c,k,b,e,f,n,l⟩
 .subst f;obtain⟨z,hd,q,rel,dd⟩:=rG I.hok e;refine ul PySem.F.slot_dict_get dd.typeIs PySem.F.entry_dict_get (PySem.F.args_dict_get_3 _ _ _) (meets_dict_get_default (eM X.prog X.w) a (pR i) hd r) ⟨_,dd.mapOf,h _ _ (I.tok _) ?_⟩;rw[l];exact(rel.val k).getD rd
 .subst f;cases i;obtain⟨z,hd,p,rel,dd⟩:=zat I.hok e;refine ul PySem.F.slot_dict_get dd.typeIs PySem.F.entry_dict_get (PySem.F.args_dict_get_3 _ _ _) (meetsH_dict_get_default (p5 (eM X.prog X.w)) a b hd r) ⟨jm hu,k,p,uJ I.hok n,dd,h _ _ (I.tok _) ?_⟩;rw[l];exact(rel.val k).getD rd
end
end L2
namespace HT
open PySem PyProof.Rows
section
variable {prog:cw}{w:World}{A:gk}{E:Value->ay->Prop}{s:ay}
theorem cat_tup (ht:IsTup s.heap t c.toArray)(hb:IsTup s.heap b ws.toArray)(l:c≠[])
  (p:ws=[]->Q (.ref t) s) (q:ws≠[]->Q (.ref s.heap.objs.size) {s with heap:=s.heap.push {cls:=.type "tuple",data:=.seq (c++ws).toArray}})
  (d:c.length+ws.length<=bb):wpAny (model prog w) A (ig .Add (.ref t) (.ref b)) Q E s:=by
 obtain⟨⟨cls,dd,data,sl⟩,ho,r,n,hd⟩:=id ht;obtain⟨⟨m,f,i,g⟩,a,j,o,k⟩:=id hb;subst r hd j k;have e:c.toArray++ws.toArray=(c++ws).toArray:=by simp
 by_cases h:ws=[]
 .exact qh ⟨_,ho,rfl⟩ ⟨_,a,rfl⟩ p6 t6 PySem.F.slot_tuple_add PySem.F.entry_tuple_add (PySem.F.args_tuple_add_2 _ _) (tuple_addW1 t b c.toArray ws.toArray n o dd f sl g (by simpa using l) (by simp[h])) ⟨ho,a,p h⟩
 .refine qh ⟨_,ho,rfl⟩ ⟨_,a,rfl⟩ p6 t6 PySem.F.slot_tuple_add PySem.F.entry_tuple_add (PySem.F.args_tuple_add_2 _ _)
   (tuple_addW2 t b c.toArray ws.toArray n o dd f sl g (by simpa using l) (by simpa using h) (bw▸d)) ⟨ho,a,?_⟩
  rw[e];exact q h
def aX (n d:Nat):Option Int->Nat
 |none=>d
 |some v=>if v<0 then(v+(n:Int)).toNat else min v.toNat n
theorem rJ (n d:Nat)(hd:d<=n)(o:Option Int):aX n d o<=n:=by
 cases o with
 |none=>exact hd
 |some v=>
  show(if v<0 then(v+n).toNat else min v.toNat n)<=n;by_cases a:v<0
  .rw[xh a];omega
  .rw[xk a];exact Nat.min_le_right _ _
theorem HJ (v:Int)(n d:Nat):(if v<0 then max (v+(n:Int)) 0 else min v (n:Int))=((aX n d (Z9 v):Nat):Int):=by
 show(if v<0 then max (v+n) 0 else min v n)=(((if v<0 then(v+n).toNat else min v.toNat n):Nat):Int);by_cases a:v<0
 .simp only[xh a];omega
 .simp only[xk a];omega
theorem Ox (a b:Option Int)(n:Nat):oh a b 1 (n:Int)=(((aX n 0 a:Nat):Int),((aX n n b:Nat):Int)):=by
 refine Prod.ext ?_ ?_
 .cases a with
  |none=>rfl
  |some v=>exact HJ v n 0
 .cases b with
  |none=>rfl
  |some v=>exact HJ v n n
theorem Oy (i j:Nat):iy (i:Int) (j:Int) 1=j-i:=by unfold iy;split<;>omega
theorem HK (p:uf v o)(h:Q o s):wpAny (model prog w) A (Builtin.Slice.slicePartIndex v) Q E s:=by
 cases p with
 |none=>exact slicePart_none h
 |int i t=>exact slicePart_int h
theorem z3t {a:Option Int}{n:Nat}(hs:s.heap.IsSliceOf sl e f .none)(pl:uf e a)(pu:uf f d)
  (h:Q (((aX n 0 a:Nat):Int),1,aX n n d-aX n 0 a) s):wpAny (model prog w) A (Builtin.Slice.sliceApplied (.ref sl) (pure n)) Q E s:=by
 obtain⟨os,b,g,c⟩:=id hs;refine ac (ac (fy b c rfl (ac (fy b c rfl (ac (fy b c rfl (ar ?_)))))));refine ac (slicePart_none ?_);refine ac (HK pl (ac (HK pu (ac (ar ?_)))));show wpAny _ _ (match oh a d 1 n with|(a,d)=>pure (a,(1:Int),iy a d 1)) _ _ s;rw[Ox a d n];show wpAny _ _ (pure (((aX n 0 a:Nat):Int),1,iy ((aX n 0 a:Nat):Int) ((aX n n d:Nat):Int) 1)) _ _ s;rw[Oy];exact ar h
theorem Oz (a:Array Value)(i k:Nat):((d8 k).filterMap λ(m:Nat)=>a[((i:Int)+(m:Int)*1).toNat]?).toArray=((a.toList.drop i).take k).toArray:=by
 have e:(λ(m:Nat)=>a[((i:Int)+m*1).toNat]?)=λm=>a[i+m]?:=by
  funext m
  have:((i:Int)+m*1).toNat=i+m:=by omega
  rw[this]
 rw[e];have:=pick_run a i k;rw[List.filterMap_map]at this;have b:((λx=>a[x]?)∘λx=>i+x)=λm=>a[i+m]?:=rfl;rw[b]at this;rw[this]
theorem getItem_tuple_cut {b:Option Int}(ht:IsTup s.heap t items)(hs:s.heap.IsSliceOf sl i j .none)(pl:uf i b)(pu:uf j c)
  (k:¬(aX items.size 0 b=0/\aX items.size items.size c=items.size))
  (h:Q (.ref s.heap.objs.size) {s with heap:=s.heap.push {cls:=.type "tuple",data:=.seq ((items.toList.drop (aX items.size 0 b)).take (aX items.size items.size c-aX items.size 0 b)).toArray}})
  (g:items.size<=bb):wpAny (model prog w) A (qg (.ref t) (.ref sl)) Q E s:=by
 have a:sizeOk (.seq ((items.toList.drop (aX items.size 0 b)).take (aX items.size items.size c-aX items.size 0 b)).toArray):=by show((items.toList.drop (aX items.size 0 b)).take (aX items.size items.size c-aX items.size 0 b)).toArray.size<=bb;rw[bw,db,List.length_drop,Array.length_toList];omega
 obtain⟨os,d,e,l⟩:=id hs;unfold qg
 try with_reducible refine dh ?_
 first|refine ac (ar ?_)|skip
 refine ac (wpAny_sequenceKey ht.typeIs (by decide) ?_);refine ac (gy ht.typeIs PyProof.Rows.slot_tuple_getitem (gf PyProof.Rows.slot_tuple_getitem ht.typeIs entry_tuple_getitem ?_ (args_tuple_getitem _ _)));show wpAny _ _ (Builtin.Tuple.tupleItemsOf (.ref t)>>=_) _ _ s;refine ac (tupleItemsOf_ ht ?_);refine ac (nk ⟨os,d,e⟩ ?_);refine ac (z3t hs pl pu ?_);have f:¬((((aX items.size 0 b:Nat):Int)==0&&(1:Int)==1&&(aX items.size items.size c-aX items.size 0 b)==items.size)=Z7):=by intro q;rw[bq,bq]at q;have m:=eq_of_beq q.1.1;have n:=eq_of_beq q.2;exact k ⟨by omega,by omega⟩
 show wpAny _ _ (if(((aX items.size 0 b:Nat):Int)==0&&1==1&&(aX items.size items.size c-aX items.size 0 b)==items.size)=Z7 then _ else _) _ _ s;rw[xk f,Oz]
 first
  |exact ac (jr (ar ⟨_,rfl,ar h⟩) a)
  |exact ac (jr (ac (ar (ar ⟨_,rfl,ar h⟩))) a)
  |exact ac (ac (jr (ar (ar ⟨_,rfl,ar h⟩)) a))
  |exact ac (ac (jr (ar ⟨_,rfl,ar h⟩) a))
end
end HT
namespace L2
open PySem PySem.Spec PyProof.Rows
abbrev TO:=St->Hp->(Option Int->Hp->Prop)->Prop
def PO (X:Cx)(e:Option Expr)(t:TO):Prop:=∀(pins:List (Addr×Obj)) (s:ay) (σ:St) (H:Hp) (Q:Option Int->Hp->Prop),Inv X pins σ H s->t σ H Q->wpAny (model X.prog X.w) X.A (evalPart e X.env) (λu s'=>∃o H',Inv X pins σ H' s'/\uf u o/\Q o H') X.xe s
def OA:TO:=λ_ H Q=>Q Z8 H
def OB (t:TE):TO:=λσ H Q=>t σ H λx H1=>∃i,x=.int i/\Q (Z9 i) H1
theorem intsAre_of:∀{a:List Value},Vals (ns.map V.int) a->su a ns:=by
 induction ns with
 |nil=>intro a r;rw[il]at r;cases r;exact .nil
 |cons n ns b=>
  intro a r;cases r with
  |cons c d=>obtain⟨t,rfl⟩:=c;exact .cons n t (b d)
section
variable {X:Cx}{e:Expr}{te:TE}{lo hi:Option Expr}{tl th:TO}{pos p2:Pos}
theorem OC:PO X Z8 OA:=by intro a s b H Q I h;exact ar ⟨Z8,H,I,.none,h⟩
theorem OD (h:PE X e te):PO X (Z9 e) (OB te):=by intro a s b H Q I c;refine aN (h a s b H _ I c) λu k ⟨x,d,f,g,j⟩=>?_;obtain⟨i,rfl,q⟩:=j;obtain⟨t,rfl⟩:=g;exact⟨Z9 i,d,f,.int i t,q⟩
def mY (X:Cx)(r:V->Option Int->Option Int->Hp->VK->Prop):Prop:=∀(pins:List (Addr×Obj)) (s:ay) (σ:St) (H:Hp) (x:V) (v vl vu:Value) (lo hi:Option Int) (sl:Addr) (Q:VK),Inv X pins σ H s->RelV x v->s.heap.IsSliceOf sl vl vu .none->uf vl lo->uf vu hi->r x lo hi H Q->∃T id,wu (.type T) "__getitem__"=pure (Z9 (.builtin id))/\s.TypeIs v T/\wpAny (model X.prog X.w) X.A (qg v (.ref sl)) (EP X pins σ Q) X.xe s
theorem mY.or (h:mY X r)(f:mY X g):mY X (λx lo hi H Q=>r x lo hi H Q\/g x lo hi H Q):=by
 intro a s b H x v c d lo hi sl Q I e hs pl pu q;rcases q with q|q
 .exact h a s b H x v c d lo hi sl Q I e hs pl pu q
 .exact f a s b H x v c d lo hi sl Q I e hs pl pu q
def OE (r:V->Option Int->Option Int->Hp->VK->Prop)(te:TE)(tl th:TO):TE:=λσ H Q=>te σ H λx H1=>tl σ H1 λl H2=>th σ H2 λu H3=>r x l u H3 Q
theorem OF (hr:mY X r)(j:PE X e te)(hl:PO X lo tl)(hu:PO X hi th):PE X (.Subscript e (.Slice lo hi Z8 p2) pos) (OE r te tl th):=by intro a s c H Q I h;refine wv (aN (j a s c H _ I h) λv k ⟨x,m,n,o,p⟩=>?_);refine wpAny_Slice (aN (hl a k c m _ n p) λf t ⟨l,w,y,pl,z⟩=>aN (hu a t c w _ y z) λg d ⟨u,i,A,pu,B⟩=>?_);refine ar ?_;have C:Inv X a c i {d with heap:=d.heap.push {cls:=.type "slice",data:=.fields #[f,g,.none]}}:=A.kept λb F q=>ah _ q;obtain⟨T,id,D,ht,E⟩:=hr a {d with heap:=d.heap.push {cls:=.type "slice",data:=.fields #[f,g,.none]}} c i x v f g l u d.heap.objs.size Q C o (Heap.IsSliceOf.new ..) pl pu B;exact tail_any ht D E (by with_unfolding_all rfl)
def nY (xs:List V)(lo hi:Option Int):List V:=(xs.drop (HT.aX xs.length 0 lo)).take (HT.aX xs.length xs.length hi-HT.aX xs.length 0 lo)
theorem HL (a:List V)(lo hi:Option Int):(nY a lo hi).length<=a.length:=by unfold nY;rw[db,List.length_drop];omega
def Cf (K:Z5):V->Option Int->Option Int->Hp->VK->Prop:=λx lo hi H Q=>∃a xs,x=.ref a/\bF K H a xs/\¬(HT.aX xs.length 0 lo=0/\HT.aX xs.length xs.length hi=xs.length)/\∀p,H p=Z8->Q (.ref p) (upd H p (.tup (nY xs lo hi)))
theorem OG:mY X (Cf X.K):=by
 rintro f s j H x v k l lo hi sl Q I h hs pl pu ⟨a,d,rfl,hx,i,q⟩
 cases h;obtain⟨e,r,ht,g⟩:=I.tuple hx;have c:e.toArray.size=d.length:=bw▸r.length.symm;refine⟨"tuple",_,PyProof.Rows.slot_tuple_getitem.lookup,ht.typeIs,?_⟩;refine HT.getItem_tuple_cut ht hs pl pu (c▸i) ?_ (c▸g);rw[c];refine⟨.ref s.heap.objs.size,_,I.laid (λb m q=>ah _ q) (af _) ?_,rfl,q _ (I.hok.fresh (af _))⟩;exact⟨a8 (HL d lo hi) g,_,(r.drop (HT.aX d.length 0 lo)).take (HT.aX d.length d.length hi-HT.aX d.length 0 lo),TupN.new _ _⟩
def HM (K:Z5):R2:=λx y H Q=>∃a b xs ys,x=.ref a/\y=.ref b/\bF K H a xs/\bF K H b ys/\xs≠ []/\xs.length+ys.length<=bb/\(ys=[]->Q (.ref a) H)/\(ys≠[]->∀p,H p=Z8->Q (.ref p) (upd H p (.tup (xs++ys))))
theorem Vals.fV (r:Vals a b):b=[]↔a=[]:=by
 cases r with
 |nil=>simp
 |cons _ _=>simp
theorem OH:OpR X (ig .Add) (HM X.K):=by
 rintro e s n H x y v u Q I h i ⟨a,b,o,p,rfl,rfl,ha,hb,hx,f,j,k⟩
 cases h;cases i;obtain⟨l,d,m,_⟩:=I.tuple ha;obtain⟨g,c,p2,_⟩:=I.tuple hb;refine HT.cat_tup m p2 (λz=>hx (d.fV.mp z)) (λz=>⟨.ref a,H,I,rfl,j (c.fV.mp z)⟩) (λz=>?_) (by rw[<-d.length,<-c.length];exact f);refine⟨.ref s.heap.objs.size,_,I.laid (λb r q=>ah _ q) (af _) ?_,rfl,k (λw=>z (c.fV.mpr w)) _ (I.hok.fresh (af _))⟩;exact⟨by rw[cg];exact f,_,d.append c,TupN.new _ _⟩
end
def iB (n:Nat)(i:Int):Option Nat:=if 0<=i then(if i<n then Z9 i.toNat else Z8)else if -(n:Int)<=i then Z9 (i+n).toNat else Z8
def cT {α:Type}(xs:List α)(i:Int):Option α:=(iB xs.length i).bind λj=>xs[j]?
theorem HN (h:iB n i=Z9 j):seqIndex? i n=Z9 j/\j<n/\-(n:Int)<=i/\i<n:=by
 unfold iB at h;by_cases h0:0<=i
 .rw[xh h0]at h;by_cases a:i<n
  .rw[xh a]at h;have e:=xl h;exact⟨by rw[wa h0 a,e],by omega,by omega,a⟩
  .rw[xk a]at h;cases h
 .rw[xk h0]at h;by_cases a:-n<=i
  .rw[xh a]at h;have e:=xl h;exact⟨by rw[um (by omega) a,e],by omega,a,by omega⟩
  .rw[xk a]at h;cases h
theorem Cg (h:cT a i=Z9 v):∃j,seqIndex? i a.length=Z9 j/\a[j]?=Z9 v/\j<a.length/\-(a.length:Int)<=i/\i<a.length:=by
 unfold cT at h;cases e:iB a.length i with
 |none=>rw[e]at h;cases h
 |some j=>rw[e]at h;obtain⟨b,c,d,f⟩:=HN e;exact⟨j,b,h,c,d,f⟩
def HP (b:Expr):Prop:=∀o i,q9 b Z6 o i=operate [o,i] (qg o i)
def kL (X:Cx)(r:R2):Prop:=∀(value slice:Expr) (pins:List (Addr×Obj)) (s:ay) (σ:St) (H:Hp) (x y:V) (v u:Value) (Q:VK),Inv X pins σ H s->RelV x v->RelV y u->r x y H Q->q9 slice Z6 v u=operate [v,u] (qg v u)->wpAny (model X.prog X.w) X.A (subscriptTail value slice v u) (EP X pins σ Q) X.xe s
def MtR (X:Cx)(id:String)(r:V->List V->Hp->VK->Prop):Prop:=∀(pins:List (Addr×Obj)) (s:ay) (σ:St) (H:Hp) (x:V) (xs:List V) (v:Value) (us:List Value) (Q:VK),Inv X pins σ H s->RelV x v->Vals xs us->r x xs H Q->wpAny (model X.prog X.w) X.A (call (.builtin id) (v::us)) (EP X pins σ Q) X.xe s
section
variable {X:Cx}{a b:Expr}{ta tb:TE}{pos:Pos}
theorem kL.or (h:kL X r)(g:kL X i):kL X (λx y H Q=>r x y H Q\/i x y H Q):=by
 intro a b c s d H x y v u Q I e f q hs;rcases q with q|q
 .exact h a b c s d H x y v u Q I e f q hs
 .exact g a b c s d H x y v u Q I e f q hs
theorem Ci (hr:kL X r)(ha:PE X a ta)(hb:PE X b tb)(hs:HP b):PE X (.Subscript a b pos) (gK r ta tb):=by intro c s d H Q I h;exact wv (binT ha hb I h λv u e x y f g i j q=>hr a b c e d f x y v u Q g i j q (hs _ _))
def wX (K:Z5):R2:=λx y H Q=>∃p xs i v,x=.ref p/\y=.int i/\SqL K H p xs/\cT xs i=Z9 v/\Q v H
def wY (K:Z5):R2:=λx y H Q=>∃p xs i v,x=.ref p/\y=.int i/\bF K H p xs/\cT xs i=Z9 v/\Q v H
def wZ:R2:=λx y H Q=>∃z i c,x=.str z/\y=.int i/\z.length<=bb/\cT z.cps.toList i=Z9 c/\Q (.str ⟨#[c]⟩) H
theorem OI:kL X (wX X.K):=by
 intro d e a s m H x y v u Q I n o h hs;obtain⟨p,F,i,z,rfl,rfl,A,B,q⟩:=h;cases n;obtain⟨t,rfl⟩:=o;obtain⟨f,r,pl,G⟩:=I.list A;obtain⟨j,c,C,J,D,E⟩:=Cg B;obtain⟨w,l,g⟩:=r.get C;have hl:=r.length;have hn:=qZ;have b:EP X a m Q w s:=⟨z,H,I,g,q⟩;by_cases h0:0<=i
 .have k:i.toNat=j:=by
   rw[wa h0 E]at c;exact xl c
  exact item_listR pl.isList h0 (by omega) (by rw[k];simpa using l) b hs
 .have k:(i+f.toArray.size).toNat=j:=by
   rw[um (by omega) D]at c;rw[bw,<-hl];exact xl c
  exact qi pl.isList.typeIs slot_list_getitem.lookup (wpAny_getItem_list_neg pl.isList (by omega) (by rw[bw]<;>omega) (by omega) (by rw[k];simpa using l) ⟨rfl,b⟩) hs
theorem OJ:kL X (wY X.K):=by intro a b d s A H x y v u Q I e f h hs;obtain⟨p,B,i,z,rfl,rfl,g,k,q⟩:=h;cases e;obtain⟨t,rfl⟩:=f;obtain⟨l,r,pl,C⟩:=I.tuple g;obtain⟨j,m,n,D,E,F⟩:=Cg k;obtain⟨w,o,c⟩:=r.get n;have hn:=qZ;exact qi pl.typeIs slot_tuple_getitem.lookup (getItem_tuple pl (by omega) (by omega) (by rw[bw,<-r.length];exact m) (by simpa using o) ⟨rfl,⟨z,H,I,c,q⟩⟩) hs
theorem OK:kL X wZ:=by
 intro a b d s o H x y v u Q I f g h hs;obtain⟨z,i,c,rfl,rfl,p,k,q⟩:=h;obtain⟨t,rfl⟩:=f;obtain⟨r,rfl⟩:=g;obtain⟨j,e,l,w,m,n⟩:=Cg k;have hl:z.cps.toList.length=z.length:=by simp[Str.length]
 rw[hl]at e m n;have hn:=qZ;exact tail_any (ww s z t) slot_str_getitem.lookup (getItem_str (by rw[xq (by omega),xq (by omega),pd]) (by rw[e];simpa using l) ⟨.str ⟨#[c]⟩,H,I.tok _,⟨_,rfl⟩,q⟩) hs
def rK (K:Z5):R2:=λx y H Q=>wX K x y H Q\/wY K x y H Q\/wZ x y H Q
theorem HQ:kL X (rK X.K):=OI.or (OJ.or OK)
theorem OL (a:List Value)(n j:Nat)(u:Value):Obj.mapSeq (·.setIfInBounds j u) {cls:=.type "list",data:=.seq a.toArray n}={cls:=.type "list",data:=.seq (a.set j u).toArray n}:=by simp[Obj.mapSeq]
theorem Inv.lst {b:List (Addr×Obj)}{σ:St}{H:Hp}{s:ay}{p:Addr}{c:List V}(I:Inv X b σ H s)(h:H p=Z9 (.lst c)):
  ∃a n,Vals c a/\s.heap.get? p=Z9 {cls:=.type "list",data:=.seq a.toArray n}/\c.length<=bb:=by
 obtain⟨z,a,n,r,e⟩:=I.hok p _ h;exact⟨a,n,r,e,z⟩
theorem Inv.lstUpd {a:List Value}(I:Inv X c d H s)(h:H p=Z9 (.lst i))
  (ho:s.heap.get? p=Z9 {cls:=.type "list",data:=.seq a.toArray n}) (hf:f {cls:=.type "list",data:=.seq a.toArray n}={cls:=.type "list",data:=.seq jG.toArray n'}) (r:Vals ys jG) (g:ys.length<=bb) t:
  Inv X c d (upd H p (.lst ys)) {s with heap:=s.heap.update p f,toks:=t}:=by
 have e:(s.heap.update p f).get? p=Z9 {cls:=.type "list",data:=.seq jG.toArray n'}:=by rw[l8 f ho (by rw[hf]<;>rfl),hf]
 refine I.write (by rw[h];trivial) (.inl rfl) (λb u hb q=>(qj _ _ (Ne.symm hb)).trans q) ⟨_,e⟩ ?_;exact⟨g,jG,n',r,e⟩
def Cj:V->V->V->Hp->(Hp->Prop)->Prop:=λo i v H Q=>∃p xs k j,o=.ref p/\i=.int k/\H p=Z9 (.lst xs)/\iB xs.length k=Z9 j/\Q (upd H p (.lst (xs.set j v)))
theorem set_list:BV X Cj:=by
 rintro a s h H o i v ov z u Q I l m rv ⟨p,w,k,j,rfl,rfl,d,x,q⟩
 cases l;obtain⟨t,rfl⟩:=m;obtain⟨b,n,r,ho,y⟩:=I.lst d;obtain⟨c,A,e,f⟩:=HN x;have hl:=r.length;have hn:=qZ;have g:Inv X a h (upd H p (.lst (w.set j v))) {s with heap:=s.heap.update p (Obj.mapSeq (·.setIfInBounds j u))}:=I.lstUpd d ho (OL b n j u) (r.set rv j) (by rw[cz];exact y) s.toks;by_cases h0:0<=k
 .have hk:k.toNat=j:=by
   rw[wa h0 f]at c;exact xl c
  exact W.ki_setAt ho h0 (by omega) (by rw[bw,<-hl];exact f) (hk▸⟨_,g,q⟩)
 .have hk:(k+b.toArray.size).toNat=j:=by
   rw[um (by omega) e]at c;rw[bw,<-hl];exact xl c
  exact W.ki_setBack ho (by omega) (by rw[bw,<-hl];exact e) (by omega) (hk▸⟨_,g,q⟩)
theorem OM (a b:Option Int)(n:Nat):(kz a b Z8 n).1=((HT.aX n 0 a:Nat):Int)/\(kz a b Z8 n).2.1=((HT.aX n n b:Nat):Int)/\(kz a b Z8 n).2.2=1:=by
 refine⟨?_,?_,rfl⟩
 .cases a with
  |none=>simp[kz,HT.aX]
  |some i=>
   simp only[kz,HT.aX,Option.getD_none,show 1>0 by decide,if_true];by_cases h:i<0
   .simp only[h,if_true]<;>omega
   .simp only[h,if_false]<;>omega
 .cases b with
  |none=>simp[kz,HT.aX]
  |some i=>
   simp only[kz,HT.aX,Option.getD_none,show 1>0 by decide,if_true];by_cases h:i<0
   .simp only[h,if_true]<;>omega
   .simp only[h,if_false]<;>omega
theorem ON (a:List Value)(b c:Option Int):slicePick a.toArray b c Z8=((a.drop (HT.aX a.length 0 b)).take (HT.aX a.length a.length c-HT.aX a.length 0 b)).toArray:=by obtain⟨d,e,f⟩:=OM b c a.toArray.size;unfold slicePick;rw[d,e,f];simp only[ri,pick_run,bw]<;>rfl
def w' (K:Z5):V->Option Int->Option Int->Hp->VK->Prop:=λx lo hi H Q=>∃a xs,x=.ref a/\SqL K H a xs/\∀p,H p=Z8->Q (.ref p) (upd H p (.lst (nY xs lo hi)))
theorem OO:mY X (w' X.K):=by
 rintro f s k H x v l m e g sl Q I h hs pl pu ⟨a,c,rfl,hx,q⟩
 cases h;obtain⟨i,r,ht,j⟩:=I.list hx;have d:=r.length;refine⟨"list",_,slot_list_getitem.lookup,ht.isList.typeIs,?_⟩;refine wpAny_getItem_list_slice ht.isList hs pl pu .none (by simp) ?_ (by rw[bw]<;>omega);rw[ON,<-d];refine⟨.ref s.heap.objs.size,_,I.laid (λb n q=>ah _ q) (af _) ?_,rfl,q _ (I.hok.fresh (af _))⟩;exact⟨a8 (HL c e g) j,_,0,(r.drop (HT.aX c.length 0 e)).take (HT.aX c.length c.length g-HT.aX c.length 0 e),ax _ rfl⟩
theorem OP:CallR X (.builtin "len") (λf H Q=>∃p b,f=[.ref p]/\(SqL X.K H p b\/bF X.K H p b)/\Q (.int b.length) H):=by
 rintro g s i H f j Q I r ⟨p,b,rfl,c,q⟩
 obtain⟨u,rfl,rfl⟩:=vals1 r;have hn:=qZ;rcases c with c|c
 .obtain⟨d,e,pl,h⟩:=I.list c;have a:=e.length;exact Calls.call_len_list pl.isList (by simp<;>omega) ⟨.int b.length,H,I.tok _,⟨s.toks+1,by rw[bw,a]⟩,q⟩
 .obtain⟨d,e,pl,h⟩:=I.tuple c;have a:=e.length;exact len_tuple pl (by simp<;>omega) ⟨.int b.length,H,I.tok _,⟨s.toks+1,by rw[bw,a]⟩,q⟩
theorem OQ:CallR X (.builtin "len") (λa H Q=>∃z,a=[.str z]/\z.length<=bb/\Q (.int z.length) H):=by
 rintro b s c H a d Q I r ⟨z,rfl,e,q⟩
 obtain⟨u,rfl,t,rfl⟩:=vals1 r;have hn:=qZ;exact len_str (by omega) ⟨.int z.length,H,I.tok _,⟨_,rfl⟩,q⟩
theorem CallR.or (h:CallR X f r)(g:CallR X f i):CallR X f (λb H Q=>r b H Q\/i b H Q):=by
 intro a s c H b d Q I e q;rcases q with q|q
 .exact h a s c H b d Q I e q
 .exact g a s c H b d Q I e q
theorem OR:CallR X (.type "list") (λv H Q=>∃p d,v=[.ref p]/\(SqL X.K H p d\/bF X.K H p d)/\∀l,H l=Z8->Q (.ref l) (upd H l (.lst d))):=by
 rintro h s y H v z Q I r ⟨p,d,rfl,i,q⟩
 obtain⟨u,rfl,rfl⟩:=vals1 r
 have j:∀a,Vals d a->d.length<=bb->∀c f,(∀b x,s.heap.get? b=Z9 x->c.get? b=Z9 x)->
   c.get? s.heap.objs.size=Z9 {cls:=.type "list",dict:=Z8,data:=.seq a.toArray f,slots:=#[]}->EP X h y Q (.ref s.heap.objs.size) {s with heap:=c}:=λa g k c f kp e=>
  ⟨.ref s.heap.objs.size,_,I.laid kp (af _) (show z0z X.prog X.w _ c _ (.lst d)from⟨k,a,f,g,e⟩),rfl,q _ (I.hok.fresh (af _))⟩
 rcases i with i|i
 .obtain⟨a,g,pl,k⟩:=I.list i;have m:=g.length;obtain⟨o,ho,t,n,hd⟩:=pl.isList;exact call_list_seq p (.inl rfl) ho t hd (λc f kp e=>j a g k c f kp e) (by simp<;>omega)
 .obtain⟨a,g,pl,k⟩:=I.tuple i;have m:=g.length;obtain⟨o,ho,t,n,hd⟩:=pl;exact call_list_seq p (.inr rfl) ho t hd (λc f kp e=>j a g k c f kp e) (by simp<;>omega)
theorem OS:CallR X (.type "tuple") (λj H Q=>∃p d,j=[.ref p]/\((SqL X.K H p d/\∀l,H l=Z8->Q (.ref l) (upd H l (.tup d)))\/(bF X.K H p d/\Q (.ref p) H))):=by
 rintro a s k H j w Q I r ⟨p,d,rfl,h⟩
 obtain⟨u,rfl,rfl⟩:=vals1 r;rcases h with⟨g,q⟩|⟨g,q⟩
 .obtain⟨c,i,pl,m⟩:=I.list g;have n:=i.length;refine call_tuple_list pl.isList (λf kp=>?_) (by simp<;>omega);have t:Inv X a k H {s with heap:=f}:=I.kept kp;have v:Inv X a k (upd H f.objs.size (.tup d)) {s with heap:=f.push {cls:=.type "tuple",data:=.seq c.toArray}}:=t.laid (λb o e=>ah _ e) (af _) (⟨m,c,i,TupN.new _ _⟩);exact⟨.ref f.objs.size,_,v,rfl,q _ (t.hok.fresh (af _))⟩
 .obtain⟨c,i,pl,m⟩:=I.tuple g;exact call_tuple_same pl ⟨.ref p,H,I,rfl,q⟩
def tyV (K:Z5)(T:String)(x:V)(H:Hp):Prop:=match x with
 |.str _=>T="str"
 |.int _=>T="int"
 |.ref p=>(T="list"/\∃xs,SqL K H p xs)\/(T="tuple"/\∃o,K.lookup p=Z9 o/\o.cls=.type "tuple"/\o.dict=Z8)\/(T="dict"/\((∃kvs,H p=Z9 (.dK kvs))\/∃kvs,H p=Z9 (.dT kvs)))\/(T="set"/\∃S n,H p=Z9 (.set S n))
 |_=>False
theorem zjz (I:Inv X f l H s)(r:RelV x v)(ty:tyV X.K T x H):
  s.TypeIs v T/\∀a,v=.ref a->∃g,s.heap.get? a=Z9 g/\g.dict=none:=by
 cases x with
 |str z=>obtain⟨t,rfl⟩:=r;cases ty;exact⟨ww s z t,λ_ e=>nomatch e⟩
 |int i=>obtain⟨t,rfl⟩:=r;cases ty;exact⟨wz s i t,λ_ e=>nomatch e⟩
 |ref p=>
  cases r;rcases ty with⟨rfl,m,h⟩|⟨rfl,o,hk,j,hd⟩|⟨rfl,hk⟩|⟨rfl,S,n,hk⟩
  .obtain⟨k,_,pl,_⟩:=I.list h;refine⟨pl.isList.typeIs,λa e=>?_⟩;cases e;obtain⟨o,n,e,c,hd,_⟩:=pl;exact⟨o,e,hd⟩
  .refine⟨⟨o,I.fR p o hk,j⟩,λa e=>?_⟩;cases e;exact⟨o,I.fR _ o hk,hd⟩
  .have z:∃o,s.heap.get? p=Z9 o/\o.ExactDict:=by
    rcases hk with⟨b,hk⟩|⟨b,hk⟩
    .obtain⟨_,_,_,_,o,_,_,e,ex,_⟩:=I.hok p _ hk;exact⟨o,e,ex⟩
    .obtain⟨_,_,_,_,o,_,_,e,ex,_⟩:=I.hok p _ hk;exact⟨o,e,ex⟩
   obtain⟨o,e,ex⟩:=z;refine⟨⟨o,e,ex.1⟩,λa d=>?_⟩;cases d;exact⟨o,e,ex.2.1⟩
  .obtain⟨o,_,_,_,e,ex,_⟩:=I.hok p _ hk;refine⟨⟨o,e,ex.1⟩,λa d=>?_⟩;cases d;exact⟨o,e,ex.2.1⟩
 |_=>exact False.elim ty
def rL (K:Z5)(T:String)(r:V->List V->Hp->VK->Prop)(to:TE):TE:=λσ H Q=>to σ H λx H1=>tyV K T x H1/\r x [] H1 Q
def xt (K:Z5)(T:String)(r:V->List V->Hp->VK->Prop)(to:TE)(t:TA):TE:=λσ H Q=>to σ H λx H1=>tyV K T x H1/\t σ H1 λxs H2=>r x xs H2 Q
variable {o e:Expr}{es:List Expr}{to:TE}{t:TA}{name:Str}{apos cpos:Pos}{T id:String}{r:V->List V->Hp->VK->Prop}
theorem zp1 (i:w5 T)(slot:Slot T name id)(d:w6 (.builtin id)=pure (.type "method_descriptor"))(hm:MtR X id r)(ho:PE X o to)
  (b:pf o name X.env (eval o X.env)=eval o X.env:=by rfl) (c:(apos.endLine==cpos.line)=true:=by rfl):PE X (.Call (.Attribute o name apos) [] [] cpos) (rL X.K T r to):=by
 intro a s e H Q I h;refine wpAny_Call_method0_late b c (aN (ho a s e H _ I h) λv j ⟨x,k,f,g,ty,l⟩=>?_);obtain⟨m,n⟩:=zjz f g ty;exact⟨T,id,i,slot,d,m,n,qk rfl (PySem.evalArgs_none (hm a j e k x [] v [] Q f g .nil l))⟩
theorem zgk (m:w5 T)(slot:Slot T name id)(g:w6 (.builtin id)=pure (.type "method_descriptor"))(hm:MtR X id r)(ho:PE X o to)(ha:PA X (e::es) t)
  (c:pf o name X.env (eval o X.env)=eval o X.env:=by rfl)
  (f:((nz cpos (eo (e::es) X.env)).all (λx=> !x.1)&&(backToKw cpos (vy [] X.env)).all (λx=>x.1.isSome)
   &&decide ((e::es).length+([]:List sr).length+(if([]:List sr).isEmpty then 0 else 1)<30))=true:=by rfl)
  (d:(apos.endLine==cpos.line)=true:=by rfl) (hs:eo (e::es) X.env=(Z6,eval e X.env)::eo es X.env:=by rfl) (b:(nz cpos (eo es X.env)).any (·.1)=false:=by rfl):
  PE X (.Call (.Attribute o name apos) (e::es) [] cpos) (xt X.K T r to t):=by
 intro a s i H Q I h;refine wpAny_Call_method_late c f d rfl (aN (ho a s i H _ I h) λv n ⟨x,p,j,k,ty,q⟩=>?_);obtain⟨u,w⟩:=zjz j k ty;refine⟨T,id,m,slot,g,u,w,?_⟩;have l:=ha cpos a n i p _ j q;rw[hs]at l ⊢;refine qk (by show(Z6||(nz cpos (eo es X.env)).any (·.1))=Z6;rw[b]<;>rfl) (Calls.evalArgs_plain ?_);exact aN l λy z ⟨A,B,C,D,E⟩=>hm a z i B x A v y Q C k D E
end
def Ck (X:Cx)(id:String)(r:V->List V->Hp->VK->Prop):Prop:=∀(pins:List (Addr×Obj)) (s:ay) (σ:St) (H:Hp) (x:V) (xs:List V) (v:Value) (us:List Value) (Q:VK),Inv X pins σ H s->RelV x v->Vals xs us->r x xs H Q->wpAny (model X.prog X.w) X.A (call (.builtin id) (v::us)) (EP X pins σ Q) X.xe s
theorem Vals.one (h:Vals [x] a):∃u,a=[u]/\RelV x u:=by
 cases h with
 |cons r h=>cases h;exact⟨_,rfl,r⟩
theorem Vals.two (h:Vals [x,y] a):∃u v,a=[u,v]/\RelV x u/\RelV y v:=by
 cases h with
 |cons r h=>cases h with
  |cons q h=>cases h;exact⟨_,_,rfl,r,q⟩
theorem Vals.zero:∀{a:List Value},Vals [] a->a=[]
 |_,.nil=>rfl
theorem Vals.rep (h:Vals a b):∀k,Vals (bc k a).flatten (bc k b).flatten
 |0=>.nil
 |k+1=>by exact Vals.append h (Vals.rep h k)
theorem foldl_rep (a:List Value):∀k b,
  xa (λc d=>c++d) b.toArray (bc k a.toArray)=(b++(bc k a).flatten).toArray
 |0,b=>by simp
 |k+1,b=>by
  have e:b.toArray++a.toArray=(b++a).toArray:=by simp
  have f:(b++a)++(bc k a).flatten=b++(bc (k+1) a).flatten:=by rw[mw,List.flatten_cons,i7]
  rw[<-f,<-foldl_rep a k (b++a),<-e,mw,List.foldl_cons]
section
variable {X:Cx}{pins:List (Addr×Obj)}{σ:St}{H:Hp}{s:ay}{l b:Addr}{xs ys zs:List V}
theorem Inv.lset {a:List Value}(I:Inv X pins σ H s)(b:H l=Z9 (.lst xs))
  (e:s.heap.get? l=Z9 {cls:=.type "list",data:=.seq a.toArray n}) (hf:f a.toArray=jG.toArray) (c:Vals ys jG) (d:ys.length<=bb):
  Inv X pins σ (upd H l (.lst ys)) {s with heap:=s.heap.update l (Obj.mapSeq f),toks:=t'}:=by
 have q:=PySem.IsL.update e f;rw[hf]at q;refine I.write (b▸trivial) (.inl rfl) (λg u hb hu=>(qj s.heap (Obj.mapSeq f) (Ne.symm hb)).trans hu) ⟨_,q⟩ ?_;exact⟨d,jG,_,c,q⟩
theorem Inv.lnew (I:Inv X pins σ H s)(b:Vals ys a)(c:ys.length<=bb):
  Inv X pins σ (upd H s.heap.objs.size (.lst ys)) {s with heap:=s.heap.push {cls:=.type "list",data:=.seq a.toArray},toks:=t'}:=
 I.laid (λ_ _ q=>ah _ q) (af _) ⟨c,a,0,b,ax _ rfl⟩
theorem Inv.fresh (I:Inv X pins σ H s):H s.heap.objs.size=none:=I.hok.fresh (af _)
theorem Inv.jH (I:Inv X pins σ H s)(b:H l=Z9 (.lst xs)):xs.length<=bb/\∃a n,Vals xs a/\xs.length=a.length/\s.heap.get? l=Z9 {cls:=.type "list",data:=.seq a.toArray n}:=by obtain⟨z,a,n,r,e⟩:=I.hok l _ b;exact⟨z,a,n,r,r.length,e⟩
theorem HR (h:n<=bb):j2 n=false:=xq (by omega)
end
section
variable {X:Cx}
def zT:V->List V->Hp->VK->Prop:=λx vs H Q=>∃l xs y,x=.ref l/\vs=[y]/\H l=Z9 (.lst xs)/\xs.length<bb/\Q .bG (upd H l (.lst (xs++[y])))
theorem Cm:Ck X "list.append" zT:=by
 rintro b s g H x h v i Q I d rv ⟨l,j,y,rfl,rfl,c,k,q⟩
 cases d;obtain⟨u,rfl,f⟩:=rv.one;obtain⟨z,a,n,r,hl,e⟩:=I.jH c;refine qm F.slot_list_append ⟨_,e,rfl⟩ F.entry_list_append (F.args_list_append_2 _ _) (PySem.list_append l a.toArray n u (by grind)) ⟨e,?_⟩;refine⟨.bG,_,I.lset c e (by simp) (r.append (.cons f .nil)) ?_,rfl,q⟩;rw[cg,List.length_singleton];omega
def zU:V->List V->Hp->VK->Prop:=λx vs H Q=>∃l b xs zs,x=.ref l/\vs=[.ref b]/\H l=Z9 (.lst xs)/\H b=Z9 (.lst zs)/\xs.length+zs.length<=bb/\Q .bG (upd H l (.lst (xs++zs)))
theorem OT:Ck X "list.extend" zU:=by
 rintro g s t H x w v y Q I i rv ⟨l,b,A,B,rfl,rfl,h,j,C,q⟩
 cases i;obtain⟨u,rfl,rfl⟩:=rv.one;obtain⟨z,c,n,r,hl,e⟩:=I.jH h;obtain⟨D,a,k,m,o,p⟩:=I.jH j;have f:c.toArray.size+a.toArray.size<=bb:=by rw[bw,bw];omega
 have d:¬(!c.toArray.isEmpty&&j2 (c.toArray.size+a.toArray.size))=true:=by rw[HR f,rj];exact gc
 refine qm F.slot_list_extend ⟨_,e,rfl⟩ F.entry_list_extend (F.args_list_extend_2 _ _) (AutoSeq1.list_extend_list_list_0 l c.toArray n b a.toArray k d (by grind) (by omega)) ⟨e,p,?_⟩;refine⟨.bG,_,I.lset h e (by simp) (r.append m) ?_,rfl,q⟩;rw[cg];omega
def xu:R2:=λx y H Q=>∃l b xs zs,x=.ref l/\y=.ref b/\H l=Z9 (.lst xs)/\H b=Z9 (.lst zs)/\xs.length+zs.length<=bb/\∀p,H p=Z8->Q (.ref p) (upd H p (.lst (xs++zs)))
theorem OU:OpR X (ig .Add) xu:=by
 rintro d s p H x y v u Q I f g ⟨l,b,t,w,rfl,rfl,h,i,A,q⟩
 cases f;cases g;obtain⟨z,c,n,r,hl,e⟩:=I.jH h;obtain⟨B,a,C,j,k,m⟩:=I.jH i;refine PySem.P.add_list e m ?_ (by grind);have o:c.toArray++a.toArray=(c++a).toArray:=by simp
 rw[o];exact⟨.ref _,_,I.lnew (r.append j) (by grind),rfl,q _ I.fresh⟩
def Cn:R2:=λx y H Q=>∃l k xs,x=.ref l/\y=.int k/\H l=Z9 (.lst xs)/\ -(2 ^ 63)<=k/\k<2 ^ 63/\xs.length*k.toNat<=bb/\∀p,H p=Z8->Q (.ref p) (upd H p (.lst (bc k.toNat xs).flatten))
theorem len_rep {b:Type}(a:List b)(k:Nat):(bc k a).flatten.length=k*a.length:=by simp
theorem OV:OpR X (ig .Mult) Cn:=by
 rintro o s J H x y v u Q I w A ⟨l,k,K,rfl,rfl,B,C,D,p,q⟩
 cases w;obtain⟨t,rfl⟩:=A;obtain⟨z,b,n,r,hl,e⟩:=I.jH B;have d:b.toArray.size*k.toNat<=bb:=by rw[bw,<-hl];exact p
 have f:¬b.toArray.size*k.toNat>(2 ^ 63-1)/8:=by
  have:bb<=(2 ^ 63-1)/8:=by decide
  omega
 have g:¬(!Builtin.List.listFitsIndex k)=true:=by rw[fitsIndex_both C D];exact gc
 have c:¬j2 (b.toArray.size*k.toNat)=true:=by rw[HR d];exact gc
 have h:xa (λi j=>i++j) #[] (bc (if b.toArray.isEmpty=Z7 then 0 else k.toNat) b.toArray)=(bc k.toNat b).flatten.toArray:=by
  have E:∀m,xa (λi j=>i++j) #[] (bc m b.toArray)=(bc m b).flatten.toArray:=λm=>by have:=foldl_rep b m [];exact this
  rw[E];cases b with
  |nil=>simp
  |cons a L=>rw[xk (by simp)]
 refine wpAny_binaryOp_repeat_ref (by decide) ⟨_,e,rfl⟩ (λG=>wz G k t) noFill_list_mul F.fills_int_mul F.slot_int_rmul repeat_list F.slot_int_index.lookup
  (qm F.slot_int_rmul (wz s k t) F.entry_int_rmul (F.args_int_rmul_2 _ _) (int___rmul___int_list k t l b.toArray n)
   ⟨e,rfl,⟨_,e,rfl⟩,qm F.slot_list_mul ⟨_,e,rfl⟩ F.entry_list_mul (F.args_list_mul_2 _ _) (AutoListH.list___mul___list_int_3 l b.toArray n k t g f c) ⟨e,?_⟩⟩)
 rw[h];exact⟨.ref _,_,I.lnew (r.rep k.toNat) (by rw[len_rep,Nat.mul_comm];exact p),rfl,q _ I.fresh⟩
end
end L2
namespace Att
open PySem PySem.W PySem.Calls PyProof.Rows
theorem OW:∀ns c,WellAll P h c (ns.map WData.int)->su c ns:=by
 intro ns
 induction ns with
 |nil=>intro c w;cases w;exact .nil
 |cons n ns d=>
  intro c w;cases w with
  |cons a b=>cases a;exact .cons _ _ (d _ b)
theorem zc2 {l:OpenLaw}(hn:l.most=Z9 n)
  (b:l.row.toRowW.claim.pre args=Z7) (i:WellAll P h c args):
  ∃a k ns,c=[ZU a]/\args=[WData.list (ns.map WData.int)]/\h.get? a=Z9 {cls:=.type "list",data:=.seq k.toArray}/\su k ns/\ns.length<=n:=by
 have m:l.pre.holds [] {args:=args}=true:=(pre_splitW b).2;obtain⟨d,r,rfl,o,p⟩:=hasAllW_cons ((pre_splitW b).1);obtain rfl:=hasAllW_nil p;obtain⟨v,rfl,s⟩:=hasW_list o;obtain⟨ns,rfl⟩:=items_int s
 have e:ns.length<=n:=by
  have g:(WTm.not (.lt (.lit (.int n)) (.len (.arg 0)))).holds [] {args:=[.list (ns.map .int)]}=true:=by have g:=(holds_andW m).1;rw[hn]at g;exact g
  have j:=condW_of g (w_not (w_lt w_lit (w_len_list (w_arg rfl))));refine p7 λq=>?_
  first
   |(rw[xp q']at j;exact absurd j dc)
   |(simp at j;omega)
 cases i with
 |cons t u=>
  cases u;cases t with
  |list ho f=>exact⟨_,_,ns,rfl,rfl,ho,OW ns _ f,e⟩
theorem OX (l:OpenLaw)(args:List WData):l.row.toRowW.claim.post args (.bool Z7) args=true:=
 postW_of
  (show WShape.has [] (.bool Z7) .bool=Z7 by first|rfl|decide|simp[WShape.has,WShape.arms,WShape.armsAll])
  (show(WTm.eq .res (.lit (.bool Z7))).value [] {args:=args,res:=Z9 (.bool Z7),after:=args}=Z9 (.bool (Z7==Z7))from w_eq_bool (w_res rfl) w_lit) rfl
theorem attach_call {l:OpenLaw}
  (hn:l.most=Z9 n) (p:d.params.defaults=[])
  (call:∀w bH b mg s h o t cd c a g ns,
   Ground q loose [] B w bH mg s b.heap->C w b.heap->
   b.heap.get? h=Z9 o->o.data=.func (docDef d.name d.params d.body d.scope t cd c)->b.heap.CodeRec cd d.name->mg d.name=Z9 (.ref h)->
   b.heap.get? a=Z9 {cls:=.type "list",data:=.seq g.toArray}->su g ns->ns.length<=n->b.gens=#[]->
   nc (model l.prog w) uq (.call (.ref h) ⟨[.ref a],[]⟩) (λr m=>r=.ok (.ret (.bool Z7))/\OldK b.heap m.heap/\m.os=b.os/\ow m.gens) b):
  WalkO q loose B C l.row.toRowW d [] (λf g=>PySem.call f g):=by
 intro w bH b mg s G Y h o t cd c D kV ho hd u y v E args z M i A F x H;obtain rfl:D=.none:=Dflts.none y p;obtain rfl:kV=.none:=Dflts.noKw y;obtain⟨a,g,ns,rfl,rfl,j,e,k⟩:=zc2 hn i x;refine enter_call (nh (call w bH b mg s h o t cd c a g ns G Y ho (fd_plain hd) u v j e k E) λr m I=>?_);obtain⟨rfl,J,K,L⟩:=I;exact⟨.inl ⟨.bool Z7,.bool Z7,[],rfl,λ_=>rfl,.bool Z7,OX l _,λ_=>⟨List.Pairwise.nil,λ_ hm=>(nomatch hm)⟩⟩,J,K,L⟩
end Att
namespace L2
open PySem PySem.Spec PyProof.Rows
theorem HS:∀{a:List Value} {ns:List Int},su a ns->Vals (ns.map V.int) a
 |_,_,.nil=>.nil
 |_,_,.cons n t h=>.cons ⟨t,rfl⟩ (HS h)
def Only (H:Hp):Prop:=∀b,H b=Z8\/∃o xs,H b=Z9 (.frz o (.lst xs))
theorem zft {K:Z5}
  (I:K.In c.heap) (l:c.heap.Ns dm mg) (hb:c.heap.Ns wg J) (B:∀x:Str,x≠"__name__"->J x=df x) (p:c.heap.NoLimit) (Q:c.gens=#[])
  (ha:c.heap.get? a=Z9 {cls:=.type "list",data:=.seq vs.toArray}) (L:su vs ns) (hl:ns.length<=bb) (hr:Room k uq)
  (F:∀base,K.In base->base.Ns dm mg->FnOk P w K mg base CX k fa fd [x] sp) (j:∀s u,sj s fd ⟨[u],[]⟩ [(x,u)])
  (C:∀H,Only H->SqL K H a (ns.map V.int)->sp [.ref a] H (λv _=>v=.bl Z7) λ_ _ _=>False)
  (D:∀H e f,CX [] H c (λ_ _ _=>False) e f->False):
  nc (model P w) uq (.call (.ref fa) ⟨[.ref a],[]⟩) (λr f=>r=.ok (.ret (.bool Z7))/\OldK c.heap f.heap/\f.os=c.os/\ow f.gens) c:=by
 have rv:=HS L
 have i:∀H,Only H->SqL K H a (ns.map V.int)->HOk P w H c.heap->(∀b,H b≠Z8->b=a)->(H a≠Z8->K.lookup a=Z8)->
   nc (model P w) uq (.call (.ref fa) ⟨[.ref a],[]⟩) (λr f=>r=.ok (.ret (.bool Z7))/\OldK c.heap f.heap/\f.os=c.os/\ow f.gens) c:=by
  intro H M R hok N S;have rM:∀{b:Addr} {o:Obj},c.heap.get? b=Z9 o->H b=Z8->(jB c.heap H).get? b=Z9 o:=λe n=>NA e n
  have E:∀{b:Addr} {o:Obj} {es:Array DictEntry} {ep:Nat},c.heap.get? b=Z9 o->o.data=.dict es ep->H b=none:=λ{b o es ep} e d=>by
   cases q:H b with
   |none=>rfl
   |some u=>have G:=N b (by rw[q];simp);subst G;rw[ha]at e;cases e;cases d
  have g:∀{b:Addr} {m:Str->Option Value},c.heap.Ns b m->(jB c.heap H).Ns b m:=λ{b m} ⟨o,es,ep,e,d,r⟩=>⟨o,es,ep,rM e (E e d),d,r⟩
  have t:=λb o e=>rM (I b o e) (by
   cases q:H b with
   |none=>rfl
   |some u=>have G:=N b (by rw[q];simp);subst G;rw[S (by rw[q];simp)]at e;cases e)
  refine nh ((F _ t (g l)).run uq [] c H ⟨[.ref a],[]⟩ [.ref a] [.ref a] _ _ hr ⟨rfl,⟨t,g l,⟨J,g hb,B⟩,let⟨mc,h1,h2⟩:=p;⟨mc,g h1,h2⟩⟩,λb o e=>NB e,ur (Nz _ _),trivial,λb hb=>absurd (show b∈([]:List Addr)from hb) (by simp),hok,.of_eq Q⟩ (j c (.ref a)) (.cons rfl .nil) (C H M R)) λr f h=>?_;cases r with
  |error e=>exact(D H e f h).elim
  |ok T=>
   cases T with
   |next=>exact False.elim h
   |brk=>exact False.elim h
   |cont=>exact False.elim h
   |ret u=>
    obtain⟨v,H',os,bare,un,y,r',rfl⟩:=h;obtain rfl:u=Value.bool true:=r';refine⟨rfl,OldK.of_keep λb o e=>?_,os,bare⟩;cases q:H b with
    |none=>exact un.keep b o e q (by intro z;exact absurd (show b∈([]:List Addr)from z) (by simp)) (by simp)
    |some u=>
     rcases M b with z|⟨ob,xs,z⟩
     .rw[q]at z;cases z
     .have z2:=un.eA b ob _ z;obtain⟨O,_⟩:=hok b _ z;obtain⟨e2,_⟩:=y b _ z2;rw[e]at O;cases O;exact e2
 cases hk:K.lookup a with
 |some o=>have e:=I a o hk;rw[ha]at e;cases e;refine i (λ_=>Z8) (λ_=>.inl rfl) (.inr ⟨_,vs.toArray,_,hk,rfl,rfl,rfl,by rw[bw,L.length];exact hl,by simpa using rv⟩) (λb u z=>by have A:Z8=Z9 u:=z;cases A) (λb z=>absurd rfl z) λz=>absurd rfl z
 |none=>
  refine i (λb=>if b=a then Z9 (.frz {cls:=.type "list",data:=.seq vs.toArray} (.lst (ns.map V.int)))else Z8) (λb=>?_) (.inl (.inr ⟨{cls:=.type "list",data:=.seq vs.toArray},xh rfl⟩)) (λb u z=>?_) (λb z=>?_) λ_=>hk
  .by_cases hb:b=a
   .exact .inr ⟨_,_,xh hb⟩
   .exact .inl (xk hb)
  .by_cases hb:b=a
   .have A:=(xh hb).symm.trans z;cases A;subst hb;exact⟨ha,by rw[ae];exact hl,vs,_,rv,ha⟩
   .have A:=(xk hb).symm.trans z;cases A
  .by_cases hb:b=a
   .exact hb
   .exact absurd (xk hb) z
theorem walk_of {l:W.OpenLaw}{K:g9->Z5}{C:World->CXT}{D:World->Sp}
  (hn:l.most=Z9 n) (r:n<=bb) (t:d.params.defaults=[]) (hr:Room k uq)
  (J:∀w h,L w h->(K w.params).In h)
  (F:∀w mg p h,(K w.params).In h->h.Ns dm mg->mg d.name=Z9 (.ref p)->∃fd,(∀s u,sj s fd ⟨[u],[]⟩ [(x,u)])/\∀base,(K w.params).In base->base.Ns dm mg->FnOk l.prog w (K w.params) mg base (C w) k p fd [x] (D w))
  (y:∀w H a (ns:List Int),ns.length<=n->Only H->SqL (K w.params) H a (ns.map V.int)->D w [.ref a] H (λv _=>v=.bl Z7) λ_ _ _=>False)
  (z:∀w H s e A,C w [] H s (λ_ _ _=>False) e A->False):
  W.WalkO q loose S L l.row.toRowW d [] (λf E=>PySem.call f E):=by
 refine Att.attach_call hn t λw bH j mg U p o X cd M a E ns G Y ho hd N B m i c O=>?_;have I:=J w _ Y;obtain⟨fd,hb,P⟩:=F w mg p _ I G.T.g B;exact zft I G.T.g G.T.b G.T.builtins G.T.nolimit O m i (a8 c r) hr P hb (λH Q R=>y w H a ns c Q R) λH e A=>z w H j e A
def z1f (s:Stmt):Arguments:=match s with
 |.FunctionDef _ a _ _ _ _ _ _ _ _=>a
 |_=>{posonlyargs:=[],args:=[],vararg:=Z8,kwonlyargs:=[],kw_defaults:=[],kwarg:=Z8,defaults:=[]}
def z0t (s:Stmt):List Stmt:=match s with
 |.FunctionDef _ _ b _ _ _ _ _ _ _=>b
 |_=>[]
def z0b (s:Stmt):Scope:=match s with
 |.FunctionDef _ _ _ _ _ _ sc _ _ _=>sc
 |_=>{kind:=.function,names:=[],isGenerator:=Z6,isCoroutine:=Z6}
abbrev lQ:CXT:=λ_ _ _ _ _ _=>False
abbrev E0:XK:=λ_ _ _=>False
theorem OY:zaj lQ X E0:=λ_ _ _ _ _ _ _ h=>h.elim
structure Fun (K:Z5)(x qual:Str)(st:Stmt)(f:Addr)(fd:ja):Prop where
 ex:∃(oc:Value) (od:Option Addr) (kV doc pm:Value) (an:Option Addr) (cdv ct:Value) (osl:Array (Option Value)),fd=W.fnOf x qual (z1f st) (z0t st) (z0b st) .none kV doc pm an cdv ct/\K.lookup f=Z9 ⟨oc,od,.func fd,osl⟩/\W.codeIn K cdv qual=Z7
 kp:Z4 K (.ref f)=Z7
section
variable {P:cw}{w:World}{K:Z5}{mg:Str->Option Value}{base:Heap}
theorem Fun.ok {st:Stmt}(F:Fun K x b st f fd)(S:FnScope N ps (z0b st))(len:∀c H Q E,i c H Q E->c.length=ps.length)
  (d:∀a A outer s H c Q E,Room k (A.deeper (qy b (z0b st) s.heap.objs.size f a))->i c H Q E->∃t,PSs (iA lQ P w K mg base N b (z0b st) f a A outer s H E).wL (z0t st) t/\t {nx:=λ_ j=>Q .bG j,rt:=Q} (start N c) H):FnOk P w K mg base lQ (k+1) f fd ps i:=by
 obtain⟨oc,od,kV,l,o,an,a,ct,m,rfl,n,e⟩:=F.ex;refine ztb n e S len λA outer s H c Q E hr g=>?_;obtain⟨t,h,q⟩:=d a A outer s H c Q E hr g;exact⟨t,h.wL,q⟩
theorem Fun.binds {st:Stmt}(F:Fun K x c st f fd)
  (h:∀kV a d an b ct e,e.length=ps.length->wp (W.fnOf x c (z1f st) (z0t st) (z0b st) .none kV a d an b ct) ⟨e,[]⟩=pure (ps.zip e)):Binds K fd ps []:=by
 obtain⟨oc,od,kV,a,d,an,b,ct,g,rfl,j,i⟩:=F.ex;exact .all (h kV a d an b ct)
theorem Co {st:Stmt}{kV:Value}(l:K.lookup f=Z9 ⟨oc,od,.func (W.fnOf x a (z1f st) (z0t st) (z0b st) .none kV d g an b ct),e⟩) (c:W.codeIn K b a=Z7) (k:Z4 K (.ref f)=Z7):Fun K x a st f (W.fnOf x a (z1f st) (z0t st) (z0b st) .none kV d g an b ct):=⟨⟨oc,od,kV,d,g,an,b,ct,e,rfl,l,c⟩,k⟩
end
theorem jI {B:Prop}(h:B):if Z6=Z7 then A else B:=h
theorem jJ {B:Prop}(h:A):if Z7=Z7 then A else B:=h
def Same (H H':Hp):Prop:=∀b o,H b=Z9 o->H' b=Z9 o
theorem Same.refl (H:Hp):Same H H:=λ_ _ h=>h
theorem Same.trans (a:Same H d)(b:Same d e):Same H e:=λc o h=>b c o (a c o h)
section
variable {X:Cx}
theorem OZ:CallR X (.builtin "len") (λc H Q=>∃a b,c=[V.ref a]/\H a=Z9 (.dK b)/\Q (.int b.length) H):=by
 rintro d s f H c g Q I r ⟨a,b,rfl,ha,q⟩
 obtain⟨u,rfl,rfl⟩:=vals1 r;exact Ot I (.inl ha) λt h e=>⟨.int b.length,H,e,⟨t,rfl⟩,q⟩
end
end L2
set_option maxHeartbeats 5000000
namespace L2
open PySem PySem.Spec PyProof.Rows
def eO (env:Env):List (Str×ir)->List (Str×Addr)->List (Str×Addr)
 | [],cs=>cs
 |(n,k)::r,cs=>eO env r (if(k==.free)=Z7 then(n,(env.cells.lookup n).getD 0)::cs else cs)
theorem HU:∀l (a:List (Str×Addr)),(∃c,a.lookup x=Z9 c)->∃c,(eO env l a).lookup x=Z9 c
 | [],a,h=>h
 |(n,k)::r,a,h=>by
  refine HU r _ ?_;split
  .by_cases e:(x==n)=Z7
   .exact⟨_,by rw[dz,e]⟩
   .obtain⟨c,b⟩:=h;exact⟨c,by rw[dz,oy.mpr e];exact b⟩
  .exact h
theorem Cp:∀(l:List (Str×ir)) cs,l.lookup x=Z9 .free->∃c,(eO env l cs).lookup x=Z9 c
 | [],cs,h=>by simp at h
 |(n,k)::r,cs,h=>by
  rw[dz]at h;cases e:(x==n)with
  |true=>rw[e]at h;have a:=xl h;subst a;exact HU r _ ⟨_,by rw[xh (by rfl),dz,e]⟩
  |false=>rw[e]at h;exact Cp r _ h
theorem zc8:∀l cs,(∀y∈l,y.2=.free->∃c,env.cells.lookup y.1=Z9 c)->(∀x c,cs.lookup x=Z9 c->env.cells.lookup x=Z9 c)->
  ∀x c,(eO env l cs).lookup x=Z9 c->env.cells.lookup x=Z9 c
 | [],cs,_,h=>h
 |(n,k)::r,cs,i,h=>by
  refine zc8 r _ (λy j=>i y (b0 _ j)) λx c a=>?_;by_cases f:(k==NameKind.free)=Z7
  .rw[xh f,dz]at a;cases e:(x==n)with
   |true=>
    rw[e]at a;have g:x=n:=by simpa using e
    obtain⟨d,hd⟩:=i (n,k) bj (by simpa using f);have b:=hd;rw[b]at a;rw[g,b];exact a
   |false=>rw[e]at a;exact h x c a
  .rw[xk f]at a;exact h x c a
theorem HV (h:∀y∈scope.names,y.2=.free->∃c,env.cells.lookup y.1=Z9 c):closureFor scope env=pure (eO env scope.names []):=by
 have go:∀l cs,(∀y∈l,y.2=.free->∃c,env.cells.lookup y.1=Z9 c)->
   (forIn l cs λx r=>if(x.2==NameKind.free)=Z7 then(do let a <-cellOf env x.1;pure (ForInStep.yield ((x.1,a)::r)):Sem _)else pure (ForInStep.yield r))=(pure (eO env l cs):Sem _):=by
  intro l
  induction l with
  |nil=>intro cs _;rfl
  |cons y r i=>
   intro cs f;obtain⟨n,k⟩:=y;rw[List.forIn_cons];unfold eO;by_cases b:(k==NameKind.free)=Z7
   .obtain⟨c,hc⟩:=f (n,k) bj (by simpa using b);have d:=hc;have e:cellOf env n=pure c:=by unfold cellOf;rw[d]
    rw[xh b,xh b];rw[e,d];exact i ((n,c)::cs) λy g=>f y (b0 _ g)
   .rw[xk b,xk b];exact i cs λy g=>f y (b0 _ g)
 have:=go scope.names [] h
 first
  |exact this
  |(show(forIn scope.names [] _>>=λr=>pure r)=_;rw[show(forIn scope.names ([]:List (Str×Addr)) _:Sem _)=_ from this];rfl)
theorem zba (hc:∀y∈scope.names,y.2≠.cell):
  (relabel scope env).names.lookup x=Z9 .cell\/(relabel scope env).names.lookup x=Z9 .free->scope.names.lookup x=Z9 .free:=by
 have go:∀(l:List (Str×ir)),(∀y∈l,y.2≠ .cell)->∀k,(k=NameKind.cell\/k=NameKind.free)->
   (l.map λ(n,k)=>if(k==.free&&env.scope.kind==.function&&env.kindOf n==Z9 .cell)then(n,NameKind.cell)else(n,k)).lookup x=Z9 k->l.lookup x=Z9 .free:=by
  intro l
  induction l with
  |nil=>intro _ k _ h;simp at h
  |cons y r g=>
   intro d k a h;obtain⟨n,q⟩:=y;rw[aw]at h;rw[dz];by_cases c:(q==NameKind.free&&env.scope.kind==.function&&env.kindOf n==Z9 .cell)=Z7
   .have b:q=.free:=by
     simp at c;simpa using c.1.1
    dsimp only at h
    rw[xh c,dz]at h;cases e:(x==n)with
    |true=>rw[b]
    |false=>rw[e]at h;exact g (λy f=>d y (b0 _ f)) k a h
   .dsimp only at h
    rw[xk c,dz]at h;cases e:(x==n)with
    |true=>
     rw[e]at h;have b:=xl h;rcases a with a|a
     .exact absurd (b.trans a) (d (n,q) bj)
     .show Z9 q=Z9 .free;rw[b,a]
    |false=>rw[e]at h;exact g (λy f=>d y (b0 _ f)) k a h
 rintro(h|h)
 .exact go scope.names hc .cell (.inl rfl) h
 .exact go scope.names hc .free (.inr rfl) h
def blk (X:Cx)(scope:Scope)(N':List Str)(C:Addr)(fp:List Addr)(s:ay)(H:Hp):Cx:={X with N:=N',bH:=s,lH:=H,env:=compEnvC scope (eO X.env scope.names []) C X.env,outer:=X.stack,stack:=X.stack,ex:=fp,fn:=λ_=>Z6,xe:=λ_ _=>False,fx:=[]}
structure BlkScope (X:Cx)(scope:Scope)(N':List Str)(nt:Nat)(js:List Nat):Prop where
 kind:scope.kind=.function
 lR:∀y∈scope.names,y.2≠.cell
 names:∀y∈scope.names,y.2=.local->scope.names.lookup y.1=Z9 .local
 frees:∀y∈scope.names,y.2=.free->X.env.scope.names.lookup y.1=Z9 .cell\/X.env.scope.names.lookup y.1=Z9 .free
 nd:N'.Nodup
 len:N'.length=nt+js.length
 pl:∀(i j:Nat),js[i]?=Z9 j->N'[nt+i]?=X.N[j]?/\∃x,X.N[j]?=Z9 x/\scope.names.lookup x=Z9 .free
def nZ (NX:List Str)(HW scope:Scope)(N':List Str)(nt:Nat)(js:List Nat):Bool:=
 (scope.kind==.function)&&scope.names.all (λy=>!(y.2==.cell))&&scope.names.all (λy=>!(y.2==.local)||(scope.names.lookup y.1==Z9 .local))&&
 scope.names.all (λy=>!(y.2==.free)||(HW.names.lookup y.1==Z9 .cell)||(HW.names.lookup y.1==Z9 .free))&&decide N'.Nodup&&(N'.length==nt+js.length)&&
 (N'.drop nt==js.map λj=>NX.getD j "")&&js.all (λj=>decide (j<NX.length)&&(scope.names.lookup (NX.getD j "")==Z9 .free))
theorem HX (hN:X.N=f)(hs:X.env.scope=c)(h:nZ f c scope k l m=Z7):BlkScope X scope k l m:=by
 unfold nZ at h;simp only[bq,bg,decide_eq_true_eq,beq_iff_eq,i4,jt,beq_eq_false_iff_ne]at h;obtain⟨⟨⟨⟨⟨⟨⟨n,o⟩,p⟩,q⟩,r⟩,s⟩,t⟩,u⟩:=h;refine⟨n,o,λy d e=>(p y d).resolve_left (λz=>z e),λy d e=>?_,r,s,λi j g=>?_⟩
 .rw[hs];rcases q y d with(z|z)|z
  .exact absurd e z
  .exact .inl z
  .exact .inr z
 .obtain⟨a,b⟩:=u j (bn g);have e:X.N[j]?=Z9 (f.getD j ""):=by rw[hN,av,aq a];rfl
  refine⟨?_,_,e,b⟩;rw[e,<-List.getElem?_drop,t,ba,g];rfl
def eP (nt:Nat)(js:List Nat)(σ:St):St:=bc nt Z8++js.map λj=>σ.getD j Z8
section
variable {X:Cx}{scope:Scope}{N':List Str}{nt:Nat}{js:List Nat}
theorem zn9 (B:BlkScope X scope Q G R)(I:Inv X D J H s)
  (w:∀b∈fp,FpOk X D H b) (S:∀b∈fp,∃o,s.heap.get? b=Z9 o)
  (k:∀b o,s.heap.get? b=Z9 o->O.get? b=Z9 o) (hn:O.Ns s.heap.objs.size m1):
  Inv (blk X scope Q s.heap.objs.size fp s H) D (eP G R J) H {s with heap:=O,toks:=t1}:=by
 have g:∀x c,(eO X.env scope.names []).lookup x=Z9 c->X.env.cells.lookup x=Z9 c:=zc8 _ _ (λy P hf=>I.ok.has y.1 (B.frees y P hf)) (λx c h=>by simp at h);have lt:∀b o,s.heap.get? b=Z9 o->b≠s.heap.objs.size:=λb o e=>cx (bh e);refine⟨⟨I.ok.mod,B.kind,I.ok.glob,I.ok.blt,af _,λx y c O h2=>I.ok.inj x y c (g x c O) (g y c h2),λx T=>Cp _ _ (zba B.lR T),λx c h=>(by cases h),I.ok.hd,I.ok.frames,.inl rfl,λb E=>?_,I.bs,a8 I.ok.kK I.sz,λb o e E=>?_,λb E T=>?_,I.stack,I.iQ,λ_ _ z=>by cases z⟩,rfl,I.bare,Un.kept k,⟨m1,hn,λi x v e1 A e3=>?_⟩,λx c e=>?_,I.hok.fresh (af _),λx c e=>I.bQ x c (g x c e),λp hp=>?_,I.hok.kept k,?_,λ_ _ z=>by cases z⟩
 .obtain⟨o,K⟩:=S b E;exact⟨lt b o K,λx c h=>(w b E).2.2.2.2.1 x c (g x c h)⟩
 .rcases(w b E).2.2.2.1 with z|z
  .exact I.ok.jC b o e z
  .exact absurd (cf (bh e) (a8 I.ok.kK z)) (cu _)
 .rcases ao.mp (I.fT b T)with z|z
  .exact(w b E).2.1 z
  .exact(w b E).2.2.1 z
 .--a name with a value:one of Yf zV
  have hi:G<=i:=by refine p7 λh=>?_;unfold eP at A;rw[iw (cq▸h),du,xh h]at A;cases A
  unfold eP at A;rw[jv (cq▸hi),cq,ba]at A;cases U:R[i-G]? with
  |none=>rw[U]at A;cases A
  |some j=>
   rw[U]at A;have C:J.getD j Z8=Z9 v:=xl A;obtain⟨L,y,P,f⟩:=B.pl (i-G) j U;rw[sv hi]at L;have V:x=y:=by have M:Q[i]?=Z9 x:=e1;rw[L,P]at M;exact(xl M).symm
   subst V
   have W:J[j]?=Z9 (Z9 v):=by
    rw[av]at C;cases q:J[j]? with
    |none=>rw[q]at C;cases C
    |some z=>rw[q]at C;simp_all
   have N:=B.frees (x,.free) (PySem.mem_of_lookup f) rfl;obtain⟨m,Yg,hl⟩:=I.loc;obtain⟨u,r,l⟩:=hl j x v P W (N.elim (λz=>.inr (.inl z)) (λz=>.inr (.inr z)));refine⟨u,r,?_⟩;rcases l with⟨Y,_⟩|⟨Y,c,hc,F⟩
   .rcases N with z|z
    .have t:X.env.scope.names.lookup x=Z9 .local:=Y;rw[z]at t;cases t
    .have t:X.env.scope.names.lookup x=Z9 .local:=Y;rw[z]at t;cases t
   .obtain⟨d,hd⟩:=Cp scope.names [] f;have Z:d=c:=by have:=g x d hd;rw[hc]at this;cases this;rfl
    subst Z;refine .inr ⟨?_,d,hd,?_⟩
    .rcases e3 with z|z|z
     .exfalso
      have:∀(l:List (Str×ir)),l.lookup x=Z9 .free->(l.map λ(n,k)=>if(k==.free&&X.env.scope.kind==.function&&X.env.kindOf n==Z9 .cell)then(n,NameKind.cell)else(n,k)).lookup x≠Z9 .local:=by
       intro l
       induction l with
       |nil=>intro h;simp at h
       |cons y r ih=>
        intro h;obtain⟨n,q⟩:=y;rw[dz]at h;rw[aw]
        dsimp only
        cases e:(x==n)with
        |true=>
         rw[e]at h;have hq:=xl h;subst hq;split
         .rw[dz,e];intro z;cases z
         .rw[dz,e];intro z;cases z
        |false=>
         rw[e]at h;split
         .rw[dz,e];exact ih h
         .rw[dz,e];exact ih h
      exact this _ f z
     .exact .inl z
     .exact .inr z
    .obtain⟨o,K,oA⟩:=F;exact⟨o,k _ _ K,oA⟩
 .obtain⟨v,o,K,hd⟩:=I.cell x c (g x c e);exact⟨v,o,k _ _ K,hd⟩
 .obtain⟨q1,q2,q3,q4,q5⟩:=I.pin p hp;refine⟨k _ _ q1,q2,lt _ _ q1,λz=>?_,q5⟩;rcases ao.mp (I.fT p.1 z)with z|z
  .exact q3 z
  .exact q4 z
 .show(eP G R J).length=Q.length;unfold eP;rw[cg,cq,ae,B.len]
end
section
variable (M:Model)(A:gk)(env:Env)
abbrev fK:Value->ay->Prop:=λ_ _=>False
def O0 (acc:Value)(Z:ay->Prop)(x:Value):ay->Prop:=wpAny M A (call (.builtin "list.append") [acc,x]) (λ_=>Z) fK
def Cq (elt:Expr)(acc:Value)(Z:ay->Prop)(ok:Bool)(s:ay):Prop:=if ok=Z7 then wpAny M A (eval elt env) (O0 M A acc Z) fK s else Z s
def O1 (ifs:List Expr)(elt:Expr)(acc:Value)(Z:ay->Prop):ay->Prop:=wpAny M A (forIn ifs Z7 λc r=>if r=Z7 then(vp c env (eval c env)>>=λok=>pure (ForInStep.yield ok))else pure (ForInStep.yield r)) (Cq M A env elt acc Z) fK
def Cr (tg:Expr)(ifs:List Expr)(elt:Expr)(acc:Value)(Z:ay->Prop)(v:Value):ay->Prop:=wpAny M A (t9 tg env v) (λ_=>O1 M A env ifs elt acc Z) fK
def Cu (tg:Expr)(ifs:List Expr)(elt:Expr)(it acc:Value)(End Z:ay->Prop)(r:Option Value)(s:ay):Prop:=match r with
 |some v=>wpAny M A (jn tg it v) (λ_=>Cr M A env tg ifs elt acc Z v) fK s
 |none=>End s
end
theorem zmp (I:Nat->ay->Prop)
  (one:∀k t,I k t->wpAny (model P w) A (vq it) (Cu (model P w) A env g a b it c (R (.ok .next)) λi=>∃m,m<k/\I m i) fK t) n (h:I n s):
  nc (model P w) A (.compLoop (.ListComp b [⟨g,d,a,0⟩] scope pos) 0 it c env) R s:=by
 apply codeAny_loop rfl I _ n h;intro k t j;apply wpAny_noted;apply wpAny_noRaise;apply ac;apply wpAny_standAt;apply ac;refine aN (one k t j) ?_
 rintro(_|v) r e
 .exact ar e
 apply ac;refine aN e λ_ u l=>?_;apply ac;refine aN l λ_ y o=>?_;apply ac;refine aN o ?_
 rintro(_|_) z f
 .exact ar ⟨rfl,f⟩
 apply ac;apply ac;refine aN f λx B p=>?_;apply ac;exact aN p λ_ C q=>ar (ar ⟨rfl,q⟩)
theorem Un.but (u:Un fs ex H f h g)(i:h.get? C=Z8)(c:cy C g j):Un fs ex H f h j:=by
 have ne:∀b o,h.get? b=Z9 o->b≠C:=λb o e z=>by rw[z,i]at e;cases e
 exact⟨λb o e n d a=>c.extBut b o (ne b o e) (u.keep b o e n d a),λb o e n d a=>let⟨sl,q⟩:=u.slot b o e n d a;⟨sl,c.extBut b _ (ne b o e) q⟩,u.free,λb o e a=>let⟨o',q⟩:=u.there b o e a;⟨o',c.extBut b _ (ne b o e) q⟩,u.eZ,u.eA,u.fA⟩
theorem HOk.but (ok:HOk P w H h)(d:H C=Z8)(f:cy C h g):HOk P w H g:=λa o e=>by
 refine(ok a o e).stay (λb u c q=>f.extBut b u (λz=>?_) q) (λ_ q=>q) λ_ _ q=>q;rcases c with c|c
 .rw[z]at c;rw[<-c,d]at e;cases e
 .rw[z,d]at c;cases c
def oB (X:Cx)(ifs:List Expr)(t:TT):Prop:=∀(pins:List (Addr×Obj)) (s:ay) (σ:St) (H:Hp) (Q:Bool->Hp->Prop),Inv X pins σ H s->t σ H Q->wpAny (model X.prog X.w) X.A (forIn ifs Z7 λc r=>if r=Z7 then do let ok <-vp c X.env (eval c X.env);pure (ForInStep.yield ok)else pure (ForInStep.yield r)) (TP X pins σ Q) X.xe s
def xv:TT:=λ_ H Q=>Q Z7 H
theorem HY:oB X [] xv:=λ_ _ _ H _ I h=>wpAny_tests_nil ⟨H,I,h⟩
theorem HZ (h:PT X c t):oB X [c] t:=λa s b H Q I q=>wpAny_tests_one (h a s b H Q I q)
def eQ (a b:St):Prop:=a.length=b.length/\∀(i:Nat) v,a[i]?=Z9 (Z9 v)->b[i]?=Z9 (Z9 v)
def xw (wi:TI)(g:TG)(tc:TT)(te:TE)(em:St->St):TE:=λσ H Q=>wi σ H λJ H1=>∀l,H1 l=Z8->∃P:Nat->Nat->List V->Hp->Prop,(∃m,P 0 m [] (upd H1 l (.lst [])))/\∀i m acc H2,P i m acc H2->(J.stop i H2/\Q (.ref l) H2)\/(J.go i H2/\acc.length<bb/\∃N:List V->Hp->Prop,(∀lS H',N lS H'->∃m',m'<m/\P (i+1) m' lS H')/\∀x H3,J.fJ i H2 x H3->g x (em σ) H3 λjK H4=>eQ (em σ) jK/\tc jK H4 λb H5=>if b=Z7 then te jK H5 λy H6=>H6 l=Z9 (.lst acc)/\N (acc++[y]) (upd H6 l (.lst (acc++[y])))else N acc H5)
section
variable {X:Cx}{scope:Scope}{N':List Str}{nt:Nat}{js:List Nat}{tg iter elt:Expr}{ifs:List Expr}{wi:TI}{g:TG}{tc:TT}{te:TE}{pos:Pos}
theorem z5e {Q:VK}{RR:Value->Addr->Result->ay->Prop}(hc:X.calm=Z7)(B:BlkScope X scope S nt js)
  (hg:∀C D s H,PG (blk X scope S C D s H) tg g) (ht:∀C D s H,oB (blk X scope S C D s H) ifs tc) (he:∀C D s H,PE (blk X scope S C D s H) elt te)
  (h2:uG X a σ tg (λJ H1=>∀l,H1 l=Z8->∃P:Nat->Nat->List V->Hp->Prop,(∃m,P 0 m [] (upd H1 l (.lst [])))/\∀i m f K,P i m f K->(J.stop i K/\Q (.ref l) K)\/(J.go i K/\f.length<bb/\∃N:List V->Hp->Prop,(∀F t,N F t->∃m',m'<m/\P (i+1) m' F t)/\∀x H3,J.fJ i K x H3->g x (eP nt js σ) H3 λjK H4=>eQ (eP nt js σ) jK/\tc jK H4 λb H5=>
  if b=Z7 then te jK H5 λy H6=>H6 l=Z9 (.lst f)/\N (f++[y]) (upd H6 l (.lst (f++[y])))else N f H5)) wR j)
  (O2:∀l C t U,(∃m,U.heap.Ns C m)->t C=Z8->C≠X.env.locals->C∉X.fs->(∀x c,X.env.cells.lookup x=Z9 c->c≠C)->X.bH.heap.objs.size<=C->(∀p∈X.pn++a,p.1≠C)->(∀h',cy C U.heap h'->Inv X a σ t {U with heap:=h'})->Q (.ref l) t->RR (.ref l) C (.ok .next) U):
  wpAny (model X.prog X.w) X.A (newList []) (λf I=>wpAny (model X.prog X.w) X.A (newFunctionEnv scope X.env.globals (eO X.env scope.names []) [] X.env.qual Z8 .none (Z9 X.env)) (λxx Cv=>nc (model X.prog X.w) X.A (.compStart (.ListComp elt [⟨tg,iter,ifs,0⟩] scope pos) 0 wR f {xx with scope:=relabel scope X.env}) (RR f xx.locals) Cv) E I) E j:=by
 obtain⟨it,D,tn,J,K,rfl,I2,T,xA,f2,q⟩:=h2;refine jr (wpAny_newFunctionEnv B.lR (by intro y hy;simp at hy) (λh₁ L M=>?_) B.kind);have xB:∀b∈D,∃o,j.heap.get? b=Z9 o:=λb h=>let⟨o,e,_⟩:=T.obj 0 _ xA b h;⟨o,e⟩;have hl:=I2.hok.fresh (af _);have W:=I2.lnew (t':=j.toks) .nil (be _);obtain⟨P,⟨m0,p0⟩,turn⟩:=q _ hl;generalize O3:j.heap.push {cls:=.type "list",dict:=Z8,data:=.seq ([]:List Value).toArray}=G at L M W ⊢;generalize O4:j.heap.objs.size=l at hl W p0 turn ⊢;have O:∀b o,j.heap.get? b=Z9 o->G.get? b=Z9 o:=λb o e=>O3▸ah _ e;have k:=λb o e=>M.extBut b o (cx (bh e)) (ah _ e);have f3:∀b∈D,FpOk X a (upd K l (.lst [])) b:=λb h=>by obtain⟨o,e⟩:=xB b h;exact⟨by rw[aA (O4▸cx (bh e))];exact(f2 b h).1,(f2 b h).2⟩
 have J0:=zn9 (t1:=j.toks+([]:List (Str×Value)).length) B W f3 (λb h=>let⟨o,e⟩:=xB b h;⟨o,O b o e⟩) k L;have Cw:∀{t:Hp},(∀b∈D,t b=Z8)->∀b∈D,FpOk (blk X scope S G.objs.size D {j with heap:=G,toks:=j.toks} (upd K l (.lst []))) a t b:=λhn b h=>⟨hn b h,(J0.ok.wF b h).1,J0.ok.jD b h,.inl h,(J0.ok.wF b h).2,(f2 b h).2.2.2.2.2⟩;have out:∀{t:Hp} {U:ay},Inv (blk X scope S G.objs.size D {j with heap:=G,toks:=j.toks} (upd K l (.lst []))) a (eP nt js σ) t U->∀h',cy G.objs.size U.heap h'->Inv X a σ t {U with heap:=h'}:=λ{t U} Jn h' sb=>by exact W.call' Jn.os (Un.but Jn.base (qw (af _)) sb) (Jn.hok.but Jn.free sb) Jn.bare λb h=>⟨(f3 b h).2.2.2.1,(f3 b h).2.1,(f3 b h).2.2.2.2.1,(f3 b h).2.2.2.2.2⟩
 have nC:∀x c,X.env.cells.lookup x=Z9 c->c≠G.objs.size:=λx c e z=>by obtain⟨v,q⟩:=W.cell x c e;exact absurd q.lt (z▸cu _)
 have loop:∀I,I={j with heap:=h₁,toks:=j.toks+([]:List (Str×Value)).length}->
   nc (model X.prog X.w) X.A (.compLoop (.ListComp elt [⟨tg,iter,ifs,0⟩] scope pos) 0 (.ref it) (.ref l) (compEnvC scope (eO X.env scope.names []) G.objs.size X.env)) (RR (.ref l) G.objs.size) I:=by
  rintro I rfl
  refine zmp (λn s'=>∃i f t,Inv (blk X scope S G.objs.size D {j with heap:=G,toks:=j.toks} (upd K l (.lst []))) a (eP nt js σ) t s'/\tn i s'.heap/\(∀b∈D,t b=Z8)/\P i n f t) ?_ m0 ⟨0,[],_,J0,T.keep _ _ _ xA λb _ o e=>k b o (O b o e),λb h=>(f3 b h).1,p0⟩
  rintro n s3 ⟨i,f,H3,Jn,Ia,Ib,w3⟩
  rcases turn i n f H3 w3 with⟨stop,qn⟩|⟨go,O5,N,hN,step⟩
  .refine aN (T.done (blk X scope S G.objs.size D {j with heap:=G,toks:=j.toks} (upd K l (.lst []))) rfl rfl rfl hc i a s3 _ H3 (λ_ _=>False) Jn (Cw Ib) Ia stop) λr s4 ⟨hr,I4⟩=>?_;subst hr;obtain⟨m,hn,_⟩:=id I4.loc;exact O2 l G.objs.size H3 s4 ⟨m,hn⟩ I4.free (qd (W.lt)) (W.wG (af _)) nC W.sz (λp hp=>cx (bh (W.pin p hp).1)) (out I4) qn
  .refine aN (T.item (blk X scope S G.objs.size D {j with heap:=G,toks:=j.toks} (upd K l (.lst []))) rfl rfl rfl hc i a s3 _ H3 (λ_ _=>False) Jn (Cw Ib) Ia go) λr s4 ⟨u,hr,h4⟩=>?_;subst hr;refine aN h4 λ_ s5 ⟨x,H5,I5,r5,y5,Cy,Cz⟩=>aN (hg _ _ _ _ _ s5 _ H5 x u _ (I5.pinned (Cw Cz) (T.obj _ _ Cy)) r5 (step x H5 y5)) λ_ s6 ⟨σ6,H6,I6,kp,q6⟩=>aN (ht _ _ _ _ _ s6 σ6 H6 _ I6 q6) λb s7 ⟨H7,I7,q7⟩=>?_
   have R:∀{s7:ay} {H7:Hp} {F:List V},Inv (blk X scope S G.objs.size D {j with heap:=G,toks:=j.toks} (upd K l (.lst []))) (a++z7s D s5.heap) σ6 H7 s7->N F H7->
     ∃m,m<n/\∃i f t,Inv (blk X scope S G.objs.size D {j with heap:=G,toks:=j.toks} (upd K l (.lst []))) a (eP nt js σ) t s7/\tn i s7.heap/\(∀b∈D,t b=Z8)/\P i m f t:=λ{s7 H7 F} I7 w7=>by
    obtain⟨n',hm,w7⟩:=hN _ _ w7;refine⟨n',hm,i+1,F,H7,(I7.bS).weak kp.1 kp.2,T.keep _ _ _ Cy λb h o e=>(I7.pin (b,o) (bp _ (bp _ (uH h e)))).1,λb h=>?_,w7⟩;obtain⟨o,e,d⟩:=T.obj _ _ Cy b h;exact(I7.pin (b,o) (bp _ (bp _ (uH h e)))).2.1
   cases b with
   |false=>exact R I7 q7
   |true=>exact aN (he _ _ _ _ _ s7 σ6 H7 _ I7 q7) λy' s8 ⟨y,H8,I8,r8,O6,w8⟩=>aN (Cm _ s8 σ6 H8 (.ref l) [y] (.ref l) [y'] (λ_ H9=>N (f++[y]) H9) I8 rfl (.cons r8 .nil) ⟨l,f,y,rfl,rfl,O6,O5,w8⟩) λ_ s9 ⟨v9,H9,I9,r9,w9⟩=>R I9 w9
 exact codeAny_compStart_list (loop _ rfl) (T.self _ 0 _ _ _ (T.keep _ _ _ xA λb _ o e=>k b o (O b o e)) (loop _ rfl))
theorem z99 (hc:X.calm=Z7)(B:BlkScope X scope d k n)(o:PI X j a wi)
  (p:∀C b s H,PG (blk X scope d C b s H) j g) (r:∀C b s H,oB (blk X scope d C b s H) e tc) (t:∀C b s H,PE (blk X scope d C b s H) f te)
  (hs:∀x,gx a X.env x=pure x:=by intro _;rfl):PE X (.ListComp f [⟨j,a,e,0⟩] scope pos) (xw wi g tc te (eP k n)):=by
 intro c s u H Q I h;refine pi rfl hs (HV λy w hf=>I.ok.has y.1 (B.frees y w hf)) B.kind B.names (aN (o c s u H _ I h) λv z A=>aN A λD K E=>?_);refine z5e hc B p r t E ?_;intro l C F z ns _ _ _ _ _ _ i q;obtain⟨m,hn⟩:=ns;exact⟨m,hn,λG J=>⟨.ref l,F,i G J,rfl,q⟩⟩
def O7 (i:Nat)(t:TE):TS:=λD σ H=>t σ H λv H1=>D.nx (σ.set i (Z9 v)) H1
theorem z6h (hc:X.calm=Z7)(hN:X.N.Nodup)(hy:X.N[i]?=Z9 y)(hl:X.env.scope.names.lookup y=Z9 .local)(hz:∀u,(y,u)∉X.fx)(B:BlkScope X scope N' nt js)(hi:PI X tg iter wi)
  (hg:∀C fp s H,PG (blk X scope N' C fp s H) tg g) (ht:∀C fp s H,oB (blk X scope N' C fp s H) ifs tc) (he:∀C fp s H,PE (blk X scope N' C fp s H) elt te)
  (O8:ma (.ListComp elt [⟨tg,iter,ifs,0⟩] scope pos) (Z9 (.Name y py)) spos.line X.env=pure Z7)
  (hs:∀x,gx iter X.env x=pure x:=by intro _;rfl):PS X (.Assign [.Name y py] (.ListComp elt [⟨tg,iter,ifs,0⟩] scope pos) spos) (O7 i (xw wi g tc te (eP nt js))):=by
 intro pins s σ H D I h;rw[exec_Assign_Name_used _ _ _ _ O8];apply ac;apply wpAny_standAt;apply ac;refine ac (jl (pi (use:=Z9 (t9 (.Name y py) X.env)) rfl hs (HV λz hz hf=>I.ok.has z.1 (B.frees z hz hf)) B.kind B.names (aN (hi pins s σ H _ I h) λv s1 h1=>aN h1 λwR s2 h2=>?_)) (λ_ s' hq=>ar (ar hq)) λ_ _ e=>e);refine z5e (Q:=λv H1=>D.nx (σ.set i (Z9 v)) H1) (RR:=λacc C=>compPost (model X.prog X.w) X.A X.xe (Z9 (t9 (.Name y py) X.env)) (λ_ s'=>SP X pins D .next s') acc C) hc B hg ht he h2 ?_;intro l C H' s1 ns hH nL nF nC nS nP out q;obtain⟨m,hn⟩:=ns;have I1:=out s1.heap (.refl ..);obtain⟨oC,es,ep,O9,Ic,O'⟩:=id hn
 have I2:Inv X (pins++[(C,oC)]) σ H' s1:=I1.fU λp hp=>(cr.mp hp).elim (λz=>I1.pin p (bp _ z)) λz=>by
  have e:p=(C,oC):=by simpa using z
  subst e;exact⟨O9,hH,nL,nF,λv z=>by have z':=z;rw[Ic]at z';cases z'⟩
 refine uh (z6f I2 hN hy (.inl hl) (v:=.ref l) rfl (λzO Ie=>?_) ⟨.inr hl,hz⟩);refine⟨m,⟨oC,es,ep,(Ie.pin (C,oC) (bp _ (bp _ (ak.mpr rfl)))).1,Ic,O'⟩,λh' sb=>⟨_,H',?_,q⟩⟩;exact(Ie.bS).turned (λb o hb e=>sb.extBut b o hb e) hH nL (.inr nS) nC nP
end
theorem zu6 {J:It}{g:TG}{tc:TT}{te:TE}{Q:VK}(P:Nat->List V->Hp->Prop)(hn:n<=bb)(h0:P 0 [] (upd A l (.lst [])))
  (q:∀i a H,P i a H->a.length<=i)
  (h:∀a H,P n a H->J.stop n H/\Q (.ref l) H) (u:∀i a H,i<n->P i a H->J.go i H)
  (r:∀i a H x j,i<n->P i a H->J.fJ i H x j->g x k j λc v=>eQ k c/\tc c v λb s=>if b=Z7 then te c s λy t=>t l=Z9 (.lst a)/\P (i+1) (a++[y]) (upd t l (.lst (a++[y])))else P (i+1) a s):
  ∃P:Nat->Nat->List V->Hp->Prop,(∃m,P 0 m [] (upd A l (.lst [])))/\∀i m a f,P i m a f->(J.stop i f/\Q (.ref l) f)\/(J.go i f/\a.length<bb/\∃N:List V->Hp->Prop,(∀d w,N d w->∃z,z<m/\P (i+1) z d w)/\∀x j,J.fJ i f x j->g x k j λc v=>eQ k c/\tc c v λb s=>if b=Z7 then te c s λy t=>t l=Z9 (.lst a)/\N (a++[y]) (upd t l (.lst (a++[y])))else N a s):=by
 refine⟨λi m a H=>i<=n/\m=n-i/\P i a H,⟨n,be _,rfl,h0⟩,?_⟩
 rintro i m a f ⟨C,rfl,p⟩
 by_cases o:i<n
 .have D:=q i a f p;exact .inr ⟨u i a f o p,by omega,P (i+1),λd w B=>⟨n-(i+1),by omega,o,rfl,B⟩,λx j y=>r i a f x j o p y⟩
 .have e:i=n:=by omega
  subst e;exact .inl (h a f p)
section
variable {X:Cx}
def xC:V->Option Int->Option Int->Hp->VK->Prop:=λx lo hi H Q=>∃z,x=.str z/\z.length<=bb/\Q (.str (Txt.slice z lo hi)) H
theorem Pa:mY X xC:=by
 rintro b s h H x v r w m n sl Q I p hs pl f ⟨z,rfl,c,q⟩
 obtain⟨t,rfl⟩:=p;refine⟨"str",_,PySem.F.slot_str_getitem.lookup,ww _ _ _,?_⟩;obtain⟨o,d,hc,hd⟩:=hs;have a:∀g k,EP X b h Q (.str (Txt.slice z m n) g) {s with toks:=k}:=λg k=>⟨.str _,H,I.tok _,⟨_,rfl⟩,q⟩;cases pl with
 |none=>
  cases f with
  |none=>exact jb (l:=Z8) (u:=Z8) (st:=Z8) ⟨o,d,hc,hd⟩ rfl (mv ⟨a8 (Txt.slice_le z _ _) c,a⟩)
  |int j e=>exact jb (l:=Z8) (u:=Z9 (j,e)) (st:=Z8) ⟨o,d,hc,hd⟩ rfl (mv ⟨a8 (Txt.slice_le z _ _) c,a⟩)
 |int i ti=>
  cases f with
  |none=>exact jb (l:=Z9 (i,ti)) (u:=Z8) (st:=Z8) ⟨o,d,hc,hd⟩ rfl (mv ⟨a8 (Txt.slice_le z _ _) c,a⟩)
  |int j e=>exact jb (l:=Z9 (i,ti)) (u:=Z9 (j,e)) (st:=Z8) ⟨o,d,hc,hd⟩ rfl (mv ⟨a8 (Txt.slice_le z _ _) c,a⟩)
theorem Pb (m:X.calm=Z7):CallR X (.builtin "all") (λj H Q=>∃(p:Addr) (bs:List Bool),j=[.ref p]/\SqL X.K H p (bs.map V.bl)/\Q (.bl (bs.all id)) H):=by
 rintro l s D H j E Q I r ⟨p,bs,rfl,n,q⟩
 obtain⟨u,rfl,rfl⟩:=vals1 r;obtain⟨f,rv,pl,F⟩:=I.list n;refine call_all_walk (jp pl.isList ?_);have ne:p≠s.heap.objs.size:=by obtain⟨o,ho,_⟩:=pl.isList;exact cx (bh ho)
 have c:=by have:=rv.length;rw[ae]at this;exact this
 refine⟨s.heap.objs.size,_,_,_,_,_,λi=>bs.getD i Z7,rfl,Walks.list (A:=X.A.in1) (I.ok.hd m) s.heap.objs.size p ne f.toArray,⟨⟨_,ax _ rfl,rfl,rfl⟩,pl.isList.at λo e=>ah _ e⟩,?_,?_⟩
 .intro i v t w G x y;have d:f[i]?=Z9 v:=by simpa using x
  have hb:i<bs.length:=c▸(br.mp d).1;obtain⟨J,hu,B⟩:=rv.get (by rw[ba,aq hb];rfl);rw[d]at hu;cases hu;cases B;refine gm ?_;have e:bs.getD i Z7=bs[i]:=by simp[av,hb]
  have g:w (bs.getD i Z7) t:=y;rw[e]at g;exact g
 .intro L M k;refine⟨.bl (bs.all id),H,I.kept λb o e=>?_,?_,q⟩
  .refine k b o (λz=>?_) (ah _ e);have C:b=s.heap.objs.size:=by simpa using z
   exact absurd (bh e) (C▸cu _)
  .have e:(d8 f.toArray.size).all (fun i=>bs.getD i Z7)=bs.all id:=by
    rw[bw,<-c];apply j7.mpr;simp only[bg];constructor
    .intro a b hb;obtain⟨i,d,rfl⟩:=List.mem_iff_getElem.mp hb;have:=a i (lj.mpr d);simpa[av,d]using this
    .intro a i d;rw[lj]at d;have h:=d;have:=a bs[i] (dq h);simpa[av,h]using this
   rw[e];rfl
end
def Own (K:Z5)(mg:Str->Option Value)(x:Str)(st:Stmt)(ps:List Str):Prop:=∃f fd,Fun K x x st f fd/\mg x=Z9 (.ref f)/\Z4 K (.ref f)=Z7/\Binds K fd ps []
def Cal (P:cw)(w:World)(K:Z5)(mg:Str->Option Value)(base:Heap)(k:Nat)(x:Str)(ps:List Str)(sp:Sp):Prop:=∃f fd,FnOk P w K mg base lQ k f fd ps sp/\mg x=Z9 (.ref f)/\Z4 K (.ref f)=Z7/\Binds K fd ps []
section
variable {P:cw}{w:World}{K:Z5}{mg:Str->Option Value}{base:Heap}
theorem zrv {st:Stmt}{kV:Value}(X:K.In h)(G:h.Ns dm mg)
  (a:W.nsIn K dm x=Z9 (Z9 (.ref f))) (l:K.lookup f=Z9 ⟨oc,od,.func (W.fnOf x x (z1f st) (z0t st) (z0b st) .none kV e i an d ct),j⟩) (c:W.codeIn K d x=Z7) (k:Z4 K (.ref f)=Z7)
  (b:∀kV e i an d ct g,g.length=ps.length->wp (W.fnOf x x (z1f st) (z0t st) (z0b st) .none kV e i an d ct) ⟨g,[]⟩=pure (ps.zip g)):Own K mg x st ps:=
 ⟨f,_,Co l c k,W.mg_of X G a,k,(Co l c k).binds b⟩
end
def isStar:Expr->Bool
 |.Starred ..=>Z7
 |_=>Z6
theorem dW (h:isStar e=Z6):eo (e::es) env=(Z6,eval e env)::eo es env:=by cases e<;>first|rfl|cases h
theorem oD:∀{es:List Expr},(es.all λe=> !isStar e)=Z7->(nz pos (eo es env)).any (·.1)=Z6
 | [],_=>rfl
 |e::es,h=>by have a:=az.mp (c8▸h);rw[dW (by simpa using a.1)];show(Z6||(nz pos (eo es env)).any (·.1))=Z6;rw[oD a.2];rfl
section
variable {X:Cx}{x:Str}{p pos:Pos}{e:Expr}{es:List Expr}{t:TA}{id T:String}{r:List V->Hp->VK->Prop}
theorem cZ (a:PE X e te)(hr:PA X es t)(hs:isStar e=false:=by rfl):PA X (e::es) (lP te t):=Oj a hr (dW hs)
theorem uL (hc:CallR X (.builtin id) r)(hm:X.mg x=Z8)(c:df x=Z9 (.builtin id))(d:PA X (e::es) t)(a:((e::es).all λe=> !isStar e)=true:=by rfl)(f:Gl X x:=by rfl)(hn:x≠"__name__":=by decide)(b:YC x:=by decide):PE X (.Call (.Name x p) (e::es) [] pos) (jF r t):=by rw[c8,bq]at a;exact zg3 hc f hm c d hn b (dW (by simpa using a.1)) (oD a.2)
theorem zW (hc:CallR X (.type T) r)(hm:X.mg x=Z8)(c:df x=Z9 (.type T))(d:PA X (e::es) t)(a:((e::es).all λe=> !isStar e)=true:=by rfl)(f:Gl X x:=by rfl)(hn:x≠"__name__":=by decide)(b:YC x:=by decide):PE X (.Call (.Name x p) (e::es) [] pos) (jF r t):=by rw[c8,bq]at a;exact zed hc f hm c d hn b (dW (by simpa using a.1)) (oD a.2)
theorem zho (C:Cal X.prog X.w X.K X.mg X.base k x ps d)(hr:Room g X.A)(h:PA X (e::es) t)(a:((e::es).all fun e=> !isStar e)=true:=by rfl)(i:k<=g:=by decide)(j:Gl X x:=by rfl)
  (c:YC x:=by decide):PE X (.Call (.Name x p) (e::es) [] pos) (rC d [] E0 t):=by
 obtain⟨f,fd,F,m,kp,b⟩:=C;rw[c8,bq]at a;exact zd4 F (hr.mono i) j m kp b .nil OY h c (dW (by simpa using a.1)) (oD a.2)
end
def z25:Expr->Bool
 |.ListComp ..=>Z7
 |.SetComp ..=>Z7
 |.DictComp ..=>Z7
 |_=>Z6
theorem uM (h:z25 e=Z6)(a:Option Expr)(n:Nat)(env:Env):ma e a n env=pure false:=by cases e<;>first|rfl|cases h
theorem xD (hN:X.N.Nodup)(a:X.N[i]?=Z9 x)(b:Loc X.env.scope x)(c:PE X e d)(hs:z25 e=false:=by rfl)(f:Sto X x:=by first|exact⟨.inl rfl,nofun⟩|exact⟨.inr rfl,nofun⟩|assumption): PS X (.Assign [.Name x pos'] e pos) (hZ d (lK i)):=z9t hN a b c (uM hs _ _ _) f
theorem lT (a:PE X e te)(hs:z25 e=false:=by rfl):PS X (.Expr e pos) (pP te):=NY a (uM hs _ _ _)
section
variable {X:Cx}
def CA (K:Z5):R2:=λx y H Q=>lM (λi j=>.int (i+j)) x y H Q\/(∃i j,x=.str i/\y=.str j/\i.length+j.length<=bb/\Q (.str (i++j)) H)\/xu x y H Q\/HM K x y H Q
def xE:R2:=λx y H Q=>lM (λi j=>.bl (decide (i<j))) x y H Q
def xF:R2:=λx y H Q=>lM (λi j=>.bl (decide (j<i))) x y H Q
def CB (K:Z5):V->Option Int->Option Int->Hp->VK->Prop:=λx lo hi H Q=>w' K x lo hi H Q\/xC x lo hi H Q
def Pc (K:Z5):List V->Hp->VK->Prop:=λxs H Q=>(∃z,xs=[.str z]/\z.length<=bb/\Q (.int z.length) H)\/(∃p ys,xs=[.ref p]/\(SqL K H p ys\/bF K H p ys)/\Q (.int ys.length) H)
theorem Pd:OpR X (ig .Add) (CA X.K):=N5.or (Oe.or (OU.or OH))
theorem CD:OpR X (eh .Lt) xE:=Oa
theorem CF:OpR X (eh .Gt) xF:=Ob
theorem Pe:kL X (rK X.K):=HQ
theorem Pf:mY X (CB X.K):=OO.or Pa
theorem Pg:CallR X (.builtin "len") (Pc X.K):=OQ.or OP
end
def rN (t T:String):Bool:=t==T||(t=="bool"&&T=="int")
def oE:List String:=["NoneType","bool","int","str","list","tuple","dict"]
def tysB:List String:=["str","int","bool","tuple","list"]
theorem Ph (K:Z5):∀t∈oE,∀T∈tysB,W.kitOne K (.type t) (.type T)=Z9 (rN t T):=by intro t a T b;simp only[oE,ao,fm,or_false]at a;simp only[tysB,ao,fm,or_false]at b;rcases a with rfl|rfl|rfl|rfl|rfl|rfl|rfl<;>rcases b with rfl|rfl|rfl|rfl|rfl<;>kernel_rfl
section
variable {D:Ends}{σ:St}{H:Hp}{Q:VK}{t u:TS}{te ta tb Yh:TE}{r r':R2}{K:Z5}
theorem Pj (h:Q (.int (i+j)) H):CA K (.int i) (.int j) H Q:=.inl ⟨i,j,rfl,rfl,h⟩
theorem Pk (c:i.length+j.length<=bb)(h:Q (.str (i++j)) H):CA K (.str i) (.str j) H Q:=.inr (.inl ⟨i,j,rfl,rfl,c,h⟩)
theorem Pl (h:Q (.bl (decide (i<j))) H):xE (.int i) (.int j) H Q:=⟨i,j,rfl,rfl,h⟩
theorem Pm (h:Q (.bl (decide (j<i))) H):xF (.int i) (.int j) H Q:=⟨i,j,rfl,rfl,h⟩
end
section
variable {K:Z5}{H:Hp}{Q:VK}
end
section
variable {K:Z5}{H:Hp}{Q:VK}
theorem Same.upd (h:H p=Z8):Same H (L2.upd H p o):=λb u e=>by rw[aA (bY e h)];exact e
theorem CG (h:n<=1000):n<=bb:=a8 h (by rw[bt];decide)
end
end L2
namespace Mi
open PySem
abbrev D:=am
set_option genInjectivity true in
inductive Res (α:Type) where
 |ok (a:α)|no
namespace Res
def bind {α β:Type}(x:Res α)(f:α->Res β):Res β:=match x with
 |.ok a=>f a
 |.no=>.no
instance:Monad Res where
 pure:=.ok
 bind:=Res.bind
theorem aC {b c:Type}(a:b)(f:b->Res c):(Res.ok a>>=f)=f a:=rfl
def eR {α:Type}:Option α->Res α
 |some a=>.ok a
 |none=>.no
theorem aB {c d:Type}{x:Res c}{f:c->Res d}{b:d}(h:(x>>=f)=.ok b):∃a,x=.ok a/\f a=.ok b:=by
 cases x with
 |ok a=>exact⟨a,rfl,h⟩
 |no=>cases h
end Res
mutual
def aM:am->Bool
 |.tuple xs=>imms xs
 |.list _=>Z6
 |.dict _=>Z6
 |.none=>Z7
 |.bool _=>Z7
 |.int _=>Z7
 |.str _=>Z7
def imms:List am->Bool
 | []=>Z7
 |x::xs=>aM x&&imms xs
end
theorem rO:∀{a:List D},imms a=Z7↔∀x∈a,aM x=Z7
 | []=>by simp[imms]
 |x::a=>by rw[imms,bq,rO];simp
abbrev cc:D->D->Bool:=PyData.eqv
mutual
def aG:Nat->am->Bool
 |0,.tuple _=>Z6
 |0,.list _=>Z6
 |n+1,.tuple xs=>dM n xs
 |n+1,.list xs=>dM n xs
 |_,.dict _=>Z6
 |_,.none=>Z7
 |_,.bool _=>Z7
 |_,.int _=>Z7
 |_,.str _=>Z7
def dM:Nat->List am->Bool
 |_,[]=>Z7
 |n,x::xs=>aG n x&&dM n xs
end
theorem iC:∀{a:List D},dM n a=Z7↔∀x∈a,aG n x=Z7
 | []=>by simp[dM]
 |x::a=>by rw[dM,bq,iC];simp
def truth:am->Bool
 |.none=>Z6
 |.bool b=>b
 |.int i=>!decide (i=0)
 |.str x=>!decide (x.length=0)
 |.tuple xs=>!xs.isEmpty
 |.list xs=>!xs.isEmpty
 |.dict es=>!es.isEmpty
def iB (n:Nat)(i:Int):Option Nat:=if 0<=i then(if i<n then Z9 i.toNat else Z8)else if -(n:Int)<=i then Z9 (i+n).toNat else Z8
def cT {α:Type}(xs:List α)(i:Int):Option α:=(iB xs.length i).bind λj=>xs[j]?
def aX (n d:Nat):Option Int->Nat
 |none=>d
 |some v=>if v<0 then(v+(n:Int)).toNat else min v.toNat n
def cut {α:Type}(xs:List α)(lo hi:Option Int):List α:=(xs.drop (aX xs.length 0 lo)).take (aX xs.length xs.length hi-aX xs.length 0 lo)
def eqK:am->am->Bool
 |.int a,y=>match y with|.int b=>a==b|_=>Z6
 |.str a,y=>match y with|.str b=>decide (a=b)|_=>Z6
 |_,_=>Z6
def jL:am->Bool
 |.int _=>Z7
 |.str _=>Z7
 |_=>Z6
abbrev bA:=List (D×D)
def cU (es:bA)(k:D):Option D:=(es.find? λe=>eqK e.1 k).map (·.2)
def dput (es:bA)(k v:D):bA:=if es.any (λe=>eqK e.1 k)then es.map (λe=>if eqK e.1 k then(e.1,v)else e)else es++[(k,v)]
def ent (e:D×D):D:=.tuple [e.1,e.2]
def jM:bA->List D->Option bA
 |es,[]=>Z9 es
 |es,p::ps=>match p with
  |.tuple [k,v]=>if jL k then jM (dput es k v) ps else Z8
  |_=>Z8
mutual
def bZ:am->am->Bool
 |.int a,y=>match y with|.int b=>decide (a<b)|_=>Z6
 |.str a,y=>match y with|.str b=>decide (a.cps.toList<b.cps.toList)|_=>Z6
 |.tuple xs,y=>match y with|.tuple ys=>aF xs ys|_=>Z6
 |.none,_=>Z6
 |.bool _,_=>Z6
 |.list _,_=>Z6
 |.dict _,_=>Z6
def aF:List am->List am->Bool
 | [],ys=>!ys.isEmpty
 |x::xs,ys=>match ys with|y::ys=>if cc x y then aF xs ys else bZ x y| []=>Z6
end
def gL (x:D):List D->List D
 | []=>[x]
 |y::ys=>if bZ y x then y::gL x ys else x::y::ys
def z21:List D->List D
 | []=>[]
 |x::xs=>gL x (z21 xs)
def uN:D->Bool
 |.int _=>Z7
 |_=>Z6
def zX:D->Bool
 |.str _=>Z7
 |_=>Z6
def ofK (b:Bool)(x:D):Bool:=if b then uN x else zX x
def cK:List Bool->List D->Bool
 | [],xs=>xs.isEmpty
 |b::bs,xs=>match xs with|x::xs=>ofK b x&&cK bs xs| []=>Z6
def zao (bs:List Bool):D->Bool
 |.tuple xs=>cK bs xs
 |_=>Z6
def mZ (xs:List D):Bool:=xs.all uN||xs.all zX||(match xs with|.tuple ys::_=>!ys.isEmpty&&xs.all (zao (ys.map uN))|_=>Z6)
def CH (xs:List D):Bool:=mZ xs||Z6
section
inductive G where
 |fr|od|al|nu
 deriving Inhabited,DecidableEq
abbrev Rho:=List (Option (G×D))
abbrev GD:=G×D
inductive Tg where
 |nm (i:Nat)|tp (is:List Nat)
 deriving Inhabited,DecidableEq
inductive C where
 |var (i:Nat)|bG|bl (b:Bool)|int (i:Int)|str (x:Str)|glob (k:Nat) (x:Str)|bin (op:ro) (a b:C)|cmp (op:CmpOp) (a b:C)|and (a b:C)|or (a b:C)|not (a:C)|jN (c a b:C)|tup (xs:C)|lst (xs:C)|rep (xs b:C)|dR|ix (a b:C)|sl (a lo hi:C)|call (k:Nat) (f:Str) (args:C)|bi (f:String) (args:C)|gO (f:String) (a:C)|rN (a:C) (ts:List String)|mt (m:String) (o args:C)|comp (nt:Nat) (js:List Nat) (N':List Str) (tg:Tg) (it cond elt:C)|sortI (i:Nat)|kM (args:C)|enum (a:C)|zip (a b:C)|tv (a:C)|nil|cons (a r:C)
 deriving Inhabited
inductive S where
 |nil|seq (a b:S)|bad|asg (t:Tg) (e:C)|dX (i:Nat) (k v:C)|mut (m:String) (i:Nat) (args:C)|drop (e:C)|ret (e:C)|aZ (c:C) (a b:S)|aV (t:Tg) (it:C) (b:S)
 deriving Inhabited
inductive Out where
 |nx (ρ:Rho)|rt (g:G) (d:D)
abbrev Fn:=List D->Res GD
def aQ:Nat:=1000000
def Ig:G->G
 |.fr=>.al
 |.od=>.od
 |.al=>.al
 |.nu=>.nu
def zY:Option (Option GD)->Res GD
 |some (Z9 (g,d))=>.ok (if aM d then .fr else Ig g,d)
 |_=>.no
def iS:D->Res Bool
 |.str x=>if x.length<=aQ then .ok (!decide (x.length=0))else .no
 |d=>.ok (truth d)
def iT:G->G
 |.fr=>.fr
 |.od=>.al
 |.al=>.al
 |.nu=>.fr
def agG:G->G
 |.fr=>.fr
 |.od=>.al
 |.al=>.al
 |.nu=>.nu
def gJ (d:D)(g:G):G:=if aM d then .fr else g
def gN (d:D)(g:G):G:=match d with
 |.list xs=>if imms xs then .fr else g
 |d=>gJ d g
def cC (xs:List GD):G:=if xs.all (λx=>x.1==.fr)then .fr else if xs.all (λx=>x.1==.fr||x.1==.nu)then .nu else .al
def oF (xs:List GD):G:=if xs.all (λx=>x.1==.fr)then .fr else .al
def okIn (x:GD):Bool:=aM x.2||(x.1==.fr||x.1==.nu)
def bU (es:bA):Bool:=es.all λe=>aM e.2
def z1r:GD->GD
 |(g,d)=>if aM d then(.al,d)else match g,d with
  |.fr,.list xs=>(if imms xs then .fr else .nu,.list xs)
  |.fr,.dict es=>(if bU es then .fr else .nu,.dict es)
  |.fr,d=>(.nu,d)
  |.nu,d=>(.nu,d)
  |.od,d=>(.od,d)
  |.al,d=>(.al,d)
def z17:GD->GD
 |(g,d)=>match g with|.od=>(.od,d)|_=>(.al,d)
def cL:Option GD->Option GD
 |some (.fr,d)=>Z9 (.al,d)
 |some (.nu,d)=>Z9 (.al,d)
 |s=>s
def gC:Option GD->Option GD
 |some (.al,d)=>if aM d then Z9 (.al,d)else Z8
 |s=>s
def rP:Rho->List Nat->List D->G->Option Rho
 |ρ,[],[],_=>Z9 ρ
 |ρ,i::is,d::ds,g=>rP (ρ.set i (Z9 (z17 (gJ d g,d)))) is ds g
 |_,_,_,_=>Z8
def eD:Tg->GD->Rho->Res Rho
 |.nm i,x,ρ=>.ok (ρ.set i (Z9 (z17 x)))
 |.tp is,(g,.tuple ds),ρ=>Res.eR (rP ρ is ds g)
 |_,_,_=>.no
def CJ:D->Res D
 |.str x=>if x.length<=aQ then .ok (.int x.length)else .no
 |.tuple xs=>.ok (.int xs.length)
 |.list xs=>.ok (.int xs.length)
 |.dict es=>.ok (.int es.length)
 |_=>.no
def xG {α:Type}(n:Nat)(xs:List α):List α:=(bc n xs).flatten
def cE:ro->D->D->Res D
 |.Add,.int a,.int b=>.ok (.int (a+b))
 |.Add,.str a,.str b=>if a.length+b.length<=aQ then .ok (.str (a++b))else .no
 |.Add,.list a,.list b=>if a.length+b.length<=aQ then .ok (.list (a++b))else .no
 |.Add,.tuple a,.tuple b=>if a.length+b.length<=aQ then .ok (.tuple (a++b))else .no
 |.Sub,.int a,.int b=>.ok (.int (a-b))
 |.Mult,.int a,.int b=>if(-(2 ^ 64)<a/\a<2 ^ 64)\/(-(2 ^ 64)<b/\b<2 ^ 64)then .ok (.int (a*b))else .no
 |.FloorDiv,.int a,.int b=>if 0<b/\b<2 ^ 200 then .ok (.int (a/b))else .no
 |.Mod,.int a,.int b=>if 0<b then .ok (.int (a%b))else .no
 |.Pow,.int a,.int b=>if 0<=b/\b<=1000/\a.natAbs<2 ^ 64 then .ok (.int (a ^ b.toNat))else .no
 |_,_,_=>.no
def inD (x:D):D->Res Bool
 |.list xs=>if aG 40 x&&dM 40 xs then .ok (xs.any λy=>cc y x)else .no
 |.tuple xs=>if aG 40 x&&dM 40 xs then .ok (xs.any λy=>cc y x)else .no
 |.dict es=>if jL x then .ok (cU es x).isSome else .no
 |_=>.no
def cmpD:CmpOp->D->D->Res Bool
 |.Eq,x,y=>if aG 40 x&&aG 40 y then .ok (cc x y)else .no
 |.NotEq,x,y=>if aG 40 x&&aG 40 y then .ok (!cc x y)else .no
 |.Lt,.int a,.int b=>.ok (decide (a<b))
 |.Gt,.int a,.int b=>.ok (decide (b<a))
 |.GtE,.int a,.int b=>.ok (decide (b<=a))
 |.In,x,y=>inD x y
 |.NotIn,x,y=>inD x y>>=λb=>.ok (!b)
 |_,_,_=>.no
def ixD:D->D->Res D
 |.list xs,.int i=>Res.eR (cT xs i)
 |.tuple xs,.int i=>Res.eR (cT xs i)
 |.str z,.int i=>if z.length<=aQ then Res.eR ((cT z.cps.toList i).map λc=>.str ⟨#[c]⟩)else .no
 |.dict es,k=>if jL k then Res.eR (cU es k)else .no
 |_,_=>.no
def rQ (z:Str)(lo hi:Option Int):Str:=⟨(cut z.cps.toList lo hi).toArray⟩
def pT:D->Option Int->Option Int->Res D
 |.list xs,lo,hi=>.ok (.list (cut xs lo hi))
 |.tuple xs,lo,hi=>if aX xs.length 0 lo=0/\aX xs.length xs.length hi=xs.length then .no else .ok (.tuple (cut xs lo hi))
 |.str z,lo,hi=>if z.length<=aQ then .ok (.str (rQ z lo hi))else .no
 |_,_,_=>.no
def rR:D->Res (Option Int)
 |.int i=>.ok (Z9 i)
 |_=>.no
def z5a:D->Res (List D)
 |.list xs=>.ok xs
 |.tuple xs=>.ok xs
 |_=>.no
def fW:List D->Option Int
 | []=>Z9 0
 |.int i::r=>(fW r).map (i+ ·)
 |_=>Z8
def allB:List D->Option (List Bool)
 | []=>Z9 []
 |.bool b::r=>(allB r).map (b:: ·)
 |_=>Z8
def xH:List D->Option (List Str)
 | []=>Z9 []
 |.str b::r=>(xH r).map (b:: ·)
 |_=>Z8
def z58:D->Res (Bool×List D)
 |.list xs=>.ok (Z7,xs)
 |.tuple xs=>.ok (Z6,xs)
 |_=>.no
def aggD (f:String)(l:Bool)(xs:List D):Res D:=
 if f="list"then .ok (.list xs)
 else if f="tuple"then .ok (.tuple xs)
 else if f="sorted"then(if(l||imms xs)&&CH xs&&decide (xs.length<64)then .ok (.list (z21 xs))else .no)
 else if f="sum"then(if l then Res.eR ((fW xs).map .int)else .no)
 else if f="all"then(if l then Res.eR ((allB xs).map λbs=>.bool (bs.all id))else .no)
 else if f="any"then(if l then Res.eR ((allB xs).map λbs=>.bool (bs.any id))else .no)
 else if f="dict"then Res.eR ((jM [] xs).map .dict)
 else .no
def kN (f:String)(xs:List D):Res D:=
 if f="len"then(match xs with| [x]=>CJ x|_=>.no)
 else if f="max"then(match xs with| [.int a,.int b]=>.ok (.int (max a b))|_=>.no)
 else if f="int"then(match xs with| [.int a]=>.ok (.int a)| [.bool b]=>.ok (.int (if b then 1 else 0))|_=>.no)
 else .no
def jO:D->String
 |.none=>"NoneType"|.bool _=>"bool"|.int _=>"int"|.str _=>"str"|.tuple _=>"tuple"|.list _=>"list"|.dict _=>"dict"
def oG (t T:String):Bool:=t==T||(t=="bool"&&T=="int")
def Pn (sep:List Nat):List Str->List Nat
 | []=>[]
 |x::r=>x.cps.toList++(r.map λp=>sep++p.cps.toList).flatten
def Po (sep:Str)(xs:List Str):Str:=⟨(Pn sep.cps.toList xs).toArray⟩
def Pp (sep:Str)(xs:List Str):Nat:=(xs.map (·.length)).sum+xs.length*sep.length
def mtD (m:String)(o:D)(xs:List D):Res D:=
 if m="get"then(match o,xs with|.dict es,[k,d]=>if jL k then .ok ((cU es k).getD d)else .no|_,_=>.no)
 else if m="join"then(match o,xs with|.str z,[.list ys]=>(match xH ys with|some ss=>if Pp z ss<=aQ then .ok (.str (Po z ss))else .no|none=>.no)|_,_=>.no)
 else .no
def fX:List D->Res (List D)
 | [.int n]=>if n<=aQ/\-aQ<=n then .ok ((d8 n.toNat).map λ(i:Nat)=>.int i)else .no
 | [.int a,.int b]=>if -aQ<=a/\b<=aQ/\a<=aQ/\-aQ<=b then .ok ((d8 (b-a).toNat).map λ(i:Nat)=>.int (a+i))else .no
 | [.int a,.int b,.int c]=>if -aQ<=a/\b<=aQ/\a<=aQ/\-aQ<=b/\0<c/\c<=aQ then .ok ((d8 (if a<b then((b-a-1)/c+1).toNat else 0)).map λ(i:Nat)=>.int (a+i*c))else .no
 |_=>.no
def z29:Nat->List D->List D
 |_,[]=>[]
 |i,x::xs=>.tuple [.int i,x]::z29 (i+1) xs
def zipD:List D->List D->List D
 |x::xs,y::ys=>.tuple [x,y]::zipD xs ys
 |_,_=>[]
def seqR:D->Res (List D)
 |.list xs=>if decide (xs.length<=aQ)then .ok xs else .no
 |.tuple xs=>if decide (xs.length<=aQ)then .ok xs else .no
 |_=>.no
def xI (ys:List GD):D->Res GD
 |.int n=>if imms (ys.map (·.2))=Z7/\0<=n/\n<=aQ/\ys.length*n.toNat<=aQ then .ok (.fr,.list (xG n.toNat (ys.map (·.2))))else .no
 |_=>.no
def oc:Option GD->List GD->List GD
 |some y,r=>y::r
 |none,r=>r
def hK (f:D->Res (Option GD)):List D->Res (List GD)
 | []=>.ok []
 |x::xs=>f x>>=λo=>hK f xs>>=λr=>.ok (oc o r)
variable (Κ:List D)(Φ:List Fn)
mutual
def aE:C->Rho->Res GD
 |.var i,ρ=>zY ρ[i]?
 |.bG,_=>.ok (.fr,.none)
 |.bl b,_=>.ok (.fr,.bool b)
 |.int i,_=>.ok (.fr,.int i)
 |.str x,_=>.ok (.fr,.str x)
 |.glob k _,_=>match Κ[k]? with|some d=>if aM d then .ok (.fr,d)else .no|none=>.no
 |.bin op a b,ρ=>aE a ρ>>=λx=>aE b ρ>>=λy=>cE op x.2 y.2>>=λd=>.ok (gN d (cC [x,y]),d)
 |.cmp op a b,ρ=>aE a ρ>>=λx=>aE b ρ>>=λy=>cmpD op x.2 y.2>>=λb=>.ok (.fr,.bool b)
 |.and a b,ρ=>aE a ρ>>=λx=>match x.2 with|.bool c=>if c then aE b ρ else .ok (.fr,.bool Z6)|_=>.no
 |.or a b,ρ=>aE a ρ>>=λx=>match x.2 with|.bool c=>if c then .ok (.fr,.bool Z7)else aE b ρ|_=>.no
 |.not a,ρ=>aE a ρ>>=λx=>iS x.2>>=λc=>.ok (.fr,.bool (!c))
 |.jN c a b,ρ=>dF c ρ>>=λk=>if k then aE a ρ else aE b ρ
 |.tup xs,ρ=>dG xs ρ>>=λys=>.ok (gJ (.tuple (ys.map (·.2))) (cC ys),.tuple (ys.map (·.2)))
 |.lst xs,ρ=>dG xs ρ>>=λys=>.ok (cC ys,.list (ys.map (·.2)))
 |.rep xs b,ρ=>dG xs ρ>>=λys=>aE b ρ>>=λn=>xI ys n.2
 |.dR,_=>.ok (.fr,.dict [])
 |.ix a b,ρ=>aE a ρ>>=λx=>aE b ρ>>=λy=>ixD x.2 y.2>>=λd=>.ok (gJ d x.1,d)
 |.sl a lo hi,ρ=>aE a ρ>>=λx=>rS lo ρ>>=λl=>rS hi ρ>>=λh=>pT x.2 l h>>=λd=>.ok (gN d (cC [x]),d)
 |.call k _ args,ρ=>dG args ρ>>=λys=>match Φ[k]? with|some m=>m (ys.map (·.2))>>=λr=>.ok (gJ r.2 (iT r.1),r.2)|none=>.no
 |.bi f args,ρ=>dG args ρ>>=λys=>kN f (ys.map (·.2))>>=λd=>.ok (gJ d .al,d)
 |.gO f a,ρ=>CK a ρ>>=λw=>aggD f w.2.1 w.2.2>>=λd=>.ok (gJ d (if imms w.2.2 then .fr else agG w.1),d)
 |.rN a ts,ρ=>aE a ρ>>=λx=>.ok (.fr,.bool (ts.any λT=>oG (jO x.2) T))
 |.mt m o args,ρ=>aE o ρ>>=λx=>dG args ρ>>=λys=>mtD m x.2 (ys.map (·.2))>>=λd=>.ok (gJ d .al,d)
 |.sortI i,ρ=>match ρ[i]? with
  |some (Z9 (_,.dict es))=>if bU es&&mZ (es.map ent)&&decide (es.length<64)then .ok (.fr,.list (z21 (es.map ent)))else .no
  |_=>.no
 |.comp nt js _ tg it cond elt,ρ=>evW it ρ>>=λw=>hK (λx=>eD tg (gJ x w.1,x) (bc nt Z8++js.map λj=>cL (ρ.getD j Z8))>>=λρ1=>dF cond ρ1>>=λk=>if k then aE elt ρ1>>=λy=>.ok (Z9 y)else .ok Z8) w.2>>=λys=>.ok (oF ys,.list (ys.map (·.2)))
 |_,_=>.no
def dF:C->Rho->Res Bool
 |.and a b,ρ=>dF a ρ>>=λc=>if c then dF b ρ else .ok Z6
 |.or a b,ρ=>dF a ρ>>=λc=>if c then .ok Z7 else dF b ρ
 |.not a,ρ=>dF a ρ>>=λc=>.ok (!c)
 |.nil,_=>.ok Z7
 |.tv a,ρ=>aE a ρ>>=λx=>iS x.2
 |_,_=>.no
def dG:C->Rho->Res (List GD)
 |.nil,_=>.ok []
 |.cons a r,ρ=>aE a ρ>>=λx=>dG r ρ>>=λxs=>.ok (x::xs)
 |_,_=>.no
def rS:C->Rho->Res (Option Int)
 |.nil,_=>.ok Z8
 |.tv a,ρ=>aE a ρ>>=λx=>rR x.2
 |_,_=>.no
def CK:C->Rho->Res (G×Bool×List D)
 |.tv a,ρ=>aE a ρ>>=λx=>z58 x.2>>=λp=>.ok (x.1,p)
 |_,_=>.no
def evW:C->Rho->Res (G×List D)
 |.kM args,ρ=>dG args ρ>>=λys=>fX (ys.map (·.2))>>=λxs=>.ok (.fr,xs)
 |.tv a,ρ=>aE a ρ>>=λx=>z5a x.2>>=λxs=>.ok (x.1,xs)
 |.enum a,ρ=>aE a ρ>>=λx=>seqR x.2>>=λxs=>.ok (.al,z29 0 xs)
 |.zip a b,ρ=>aE a ρ>>=λx=>aE b ρ>>=λy=>seqR x.2>>=λxs=>seqR y.2>>=λys=>.ok (.al,zipD xs ys)
 |_,_=>.no
end
def oH:Res Out->(Rho->Res Out)->Res Out
 |.ok (.nx ρ),k=>k ρ
 |r,_=>r
def dB (f:D->Rho->Res Out):List D->Rho->Res Out
 | [],ρ=>.ok (.nx ρ)
 |x::xs,ρ=>match f x ρ with
  |.ok (.nx cF)=>dB f xs cF
  |.ok (.rt g d)=>.ok (.rt g d)
  |.no=>.no
def putAt (xs:List D)(ys:List GD):Res (List D):=match ys with
 | [x,y]=>(match x.2 with
  |.int i=>if okIn y&&decide (xs.length<aQ)&&decide (0<=i)&&decide (i<=xs.length)then .ok (xs.take i.toNat++y.2::xs.drop i.toNat)else .no
  |_=>.no)
 |_=>.no
def lU (m:String)(xs:List D)(ys:List GD):Res (List D):=
 if m="append"then(match ys with| [y]=>if okIn y&&decide (xs.length<aQ)then .ok (xs++[y.2])else .no|_=>.no)
 else .no
def jP (ρ:Rho)(i:Nat):Bool:=match ρ[i]? with
 |some (Z9 (.fr,_))=>Z7
 |_=>Z6
def zZ (i:Nat)(ρ:Rho):Res (G×List D×Rho):=match ρ[i]? with
 |some (Z9 (.fr,d))=>z5a d>>=λxs=>.ok (.al,xs,ρ.set i (Z9 (.al,d)))
 |_=>.no
def CL:Option GD->Option GD
 |some (.fr,.list xs)=>Z9 (.al,.list xs)
 |s=>s
def lV (x:GD)(ρ:Rho):Res (G×List D×Rho):=match x.2 with
 |.list xs=>if imms xs then .ok (.al,xs,ρ.map CL)else .no
 |_=>.no
def pU (x:GD):Bool:=match x.2 with
 |.list _=>!(x.1==.al)
 |d=>!(x.1==.al)||aM d
def oI (ys:List GD)(ρ:Rho):Res (G×List D×Rho):=match ys with
 | [x]=>if pU x then seqR x.2>>=λxs=>.ok (.al,z29 0 xs,ρ)else .no
 |_=>.no
def oJ (ys:List GD)(ρ:Rho):Res (G×List D×Rho):=match ys with
 | [x,y]=>if pU x&&pU y then seqR x.2>>=λxs=>seqR y.2>>=λzs=>.ok (.al,zipD xs zs,ρ)else .no
 |_=>.no
def jQ (it:C)(ρ:Rho):Bool:=match evW Κ Φ it ρ with
 |.ok w=>w.1==.al
 |_=>Z6
def uO (it:C)(ρ:Rho):Res (G×List D×Rho):=evW Κ Φ it ρ>>=λw=>if w.1==.al then .no else .ok (w.1,w.2,ρ)
def evF (it:C)(ρ:Rho):Res (G×List D×Rho):=match it with
 |.tv (.var i)=>if jP ρ i then zZ i ρ else if jQ Κ Φ it ρ then aE Κ Φ (.var i) ρ>>=λx=>lV x ρ else uO Κ Φ it ρ
 |.tv a=>if jQ Κ Φ it ρ then aE Κ Φ a ρ>>=λx=>lV x ρ else uO Κ Φ it ρ
 |.enum a=>dG Κ Φ (.cons a .nil) ρ>>=λys=>oI ys ρ
 |.zip a b=>dG Κ Φ (.cons a (.cons b .nil)) ρ>>=λys=>oJ ys ρ
 |it=>uO Κ Φ it ρ
def xJ:Option GD->Option GD
 |some (.fr,d)=>Z9 (.nu,d)
 |s=>s
def aW:S->Rho->Res Out
 |.nil,ρ=>.ok (.nx ρ)
 |.seq a b,ρ=>oH (aW a ρ) (aW b)
 |.bad,_=>.no
 |.asg (.nm i) e,ρ=>aE Κ Φ e ρ>>=λx=>.ok (.nx (ρ.set i (Z9 (z1r x))))
 |.asg t e,ρ=>aE Κ Φ e ρ>>=λx=>eD t x ρ>>=λcF=>.ok (.nx cF)
 |.dX i k v,ρ=>aE Κ Φ v ρ>>=λy=>aE Κ Φ k ρ>>=λx=>match ρ[i]? with
  |some (Z9 (.fr,.dict es))=>if jL x.2&&okIn y&&decide (es.length<aQ)then .ok (.nx ((ρ.set i (Z9 (.fr,.dict (dput es x.2 y.2)))).map gC))else .no
  |some (Z9 (.fr,.list xs))=>(match x.2 with
   |.int j=>if okIn y then(match iB xs.length j with|some n=>.ok (.nx ((ρ.set i (Z9 (.fr,.list (xs.set n y.2)))).map gC))|none=>.no)else .no
   |_=>.no)
  |_=>.no
 |.mut m i args,ρ=>dG Κ Φ args ρ>>=λys=>match ρ[i]? with
  |some (Z9 (.fr,.list xs))=>lU m xs ys>>=λCM=>.ok (.nx ((ρ.set i (Z9 (.fr,.list CM))).map gC))
  |_=>.no
 |.drop e,ρ=>aE Κ Φ e ρ>>=λ_=>.ok (.nx ρ)
 |.ret e,ρ=>match e with
  |.var i=>match ρ[i]? with
   |some (Z9 (g,d))=>.ok (.rt (if aM d then .fr else iT g) d)
   |_=>.no
  |e=>aE Κ Φ e ρ>>=λx=>.ok (.rt (iT x.1) x.2)
 |.aZ c a b,ρ=>dF Κ Φ c ρ>>=λk=>if k then aW a ρ else aW b ρ
 |.aV t it b,ρ=>evF Κ Φ it ρ>>=λw=>dB (λx ρ1=>eD t (gJ x w.1,x) ρ1>>=λkO=>aW b kO) w.2.1 w.2.2
def aI (n:Nat)(s:S)(ds:List D):Res GD:=match aW Κ Φ s (ds.map (λd=>Z9 (.od,d))++bc (n-ds.length) Z8)with
 |.ok (.nx _)=>.ok (.fr,.none)
 |.ok (.rt g d)=>.ok (g,d)
 |_=>.no
end
open PySem.Spec PyProof.Rows L2
def kD:Key->D
 |.inl i=>.int i
 |.inr x=>.str x
def keyOk:Key->Prop
 |.inl _=>True
 |.inr x=>Z2 x=Z7
def KL (K:Z5)(a:Addr)(xs:List V):Prop:=∃(o:Obj) (dE:Array Value) (n:Nat),K.lookup a=Z9 o/\o.cls=.type "list"/\o.dict=Z8/\o.data=.seq dE n/\dE.size<=bb/\Vals xs dE.toList
abbrev Ad:=Option Addr
def FL (K:Z5)(H:Hp)(a:Addr)(xs:List V):Prop:=(∃o,H a=Z9 (.frz o (.lst xs)))\/KL K a xs
def nw (H:Hp):Ad->Prop
 |some a=>H a=Z8
 |none=>False
section
variable (K:Z5)(H:Hp)(B:Ad->Prop)
mutual
def Rep:V->am->Prop
 |v,.none=>v=.bG
 |v,.bool b=>v=.bl b
 |v,.int i=>v=.int i
 |v,.str x=>v=.str x/\Z2 x=Z7
 |v,.tuple ds=>∃a vs,v=.ref a/\bF K H a vs/\Reps vs ds
 |v,.list ds=>∃a vs,v=.ref a/\((H a=Z9 (.lst vs)/\B (Z9 a))\/(FL K H a vs/\B Z8))/\Reps vs ds
 |v,.dict es=>∃a kvs,v=.ref a/\H a=Z9 (.dK kvs)/\B (Z9 a)/\REs kvs es
def Reps:List V->List am->Prop
 |vs,[]=>vs=[]
 |vs,d::ds=>∃v r,vs=v::r/\Rep v d/\Reps r ds
def REs:List (Key×V)->List (am×am)->Prop
 |kvs,[]=>kvs=[]
 |kvs,(kd,d)::es=>∃k v r,kvs=(k,v)::r/\kd=kD k/\keyOk k/\Rep v d/\REs r es
end
end
def Fix:HO->Prop
 |.tup _=>True
 |.frz _ (.lst _)=>True
 |.frz _ (.tup _)=>True
 |_=>False
section
variable {K:Z5}{H H':Hp}{B B':Ad->Prop}
theorem FL.keep (b:∀a o,H a=Z9 o->(B (Z9 a)\/Fix o)->H' a=Z9 o)(r:FL K H a c):FL K H' a c:=by
 rcases r with⟨o,r⟩|r
 .exact .inl ⟨o,b a _ r (.inr True.intro)⟩
 .exact .inr r
theorem _root_.L2.bF.keep (b:∀a o,H a=Z9 o->(B (Z9 a)\/Fix o)->H' a=Z9 o)(r:bF K H a c):bF K H' a c:=by
 rcases r with(r|⟨o,r⟩)|r
 .exact .inl (.inl (b a _ r (.inr True.intro)))
 .exact .inl (.inr ⟨o,b a _ r (.inr True.intro)⟩)
 .exact .inr r
mutual
theorem Rep.keep (hH:∀a o,H a=Z9 o->(B (Z9 a)\/Fix o)->H' a=Z9 o)(hB:∀a,B a->B' a):∀{v:V} (d:am),Rep K H B v d->Rep K H' B' v d
 |v,.none,r=>r
 |v,.bool b,r=>r
 |v,.int i,r=>r
 |v,.str x,r=>r
 |v,.tuple ds,r=>by obtain⟨a,vs,e,h,q⟩:=r;exact⟨a,vs,e,h.keep hH,Reps.keep hH hB ds q⟩
 |v,.list ds,r=>by
  obtain⟨a,vs,e,h,q⟩:=r;refine⟨a,vs,e,?_,Reps.keep hH hB ds q⟩;rcases h with⟨h,b⟩|h
  .exact .inl ⟨hH a _ h (.inl b),hB _ b⟩
  .exact .inr ⟨FL.keep hH h.1,hB _ h.2⟩
 |v,.dict es,r=>by obtain⟨a,kvs,e,h,b,q⟩:=r;exact⟨a,kvs,e,hH a _ h (.inl b),hB _ b,REs.keep hH hB es q⟩
theorem Reps.keep (hH:∀a o,H a=Z9 o->(B (Z9 a)\/Fix o)->H' a=Z9 o)(hB:∀a,B a->B' a):∀{vs:List V} (ds:List am),Reps K H B vs ds->Reps K H' B' vs ds
 |vs,[],r=>r
 |vs,d::ds,r=>by obtain⟨v,t,e,h,q⟩:=r;exact⟨v,t,e,Rep.keep hH hB d h,Reps.keep hH hB ds q⟩
theorem REs.keep (hH:∀a o,H a=Z9 o->(B (Z9 a)\/Fix o)->H' a=Z9 o)(hB:∀a,B a->B' a):∀{kvs:List (Key×V)} (es:List (am×am)),REs K H B kvs es->REs K H' B' kvs es
 |kvs,[],r=>r
 |kvs,(kd,d)::es,r=>by obtain⟨k,v,t,e,e2,ok,h,q⟩:=r;exact⟨k,v,t,e,e2,ok,Rep.keep hH hB d h,REs.keep hH hB es q⟩
end
theorem Rep.same (s:Same H H')(b:∀a,B a->B' a)(r:Rep K H B v d):Rep K H' B' v d:=Rep.keep (λa o e _=>s a o e) b d r
theorem Reps.same (s:Same H H')(b:∀a,B a->B' a)(r:Reps K H B c ds):Reps K H' B' c ds:=Reps.keep (λa o e _=>s a o e) b ds r
theorem REs.same (s:Same H H')(b:∀a,B a->B' a)(r:REs K H B c ds):REs K H' B' c ds:=REs.keep (λa o e _=>s a o e) b ds r
theorem Rep.weak (b:∀a,B a->B' a)(r:Rep K H B v d):Rep K H B' v d:=r.same (λ_ _ e=>e) b
theorem Reps.weak (b:∀a,B a->B' a)(r:Reps K H B v d):Reps K H B' v d:=r.same (λ_ _ e=>e) b
mutual
theorem Rep.aT:∀{v:V} (d:am),aM d=Z7->Rep K H B v d->Rep K H B' v d
 |v,.none,_,r=>r
 |v,.bool b,_,r=>r
 |v,.int i,_,r=>r
 |v,.str x,_,r=>r
 |v,.tuple ds,i,r=>by obtain⟨a,vs,e,h,q⟩:=r;exact⟨a,vs,e,h,Reps.aT ds (i) q⟩
 |v,.list ds,i,r=>by cases(show Z6=Z7 from i)
 |v,.dict es,i,r=>by cases(show Z6=Z7 from i)
theorem Reps.aT:∀{vs:List V} (ds:List am),imms ds=Z7->Reps K H B vs ds->Reps K H B' vs ds
 |vs,[],_,r=>r
 |vs,d::ds,i,r=>by have i:=az.mp (show(aM d&&imms ds)=Z7 from i);obtain⟨v,t,e,h,q⟩:=r;exact⟨v,t,e,Rep.aT d i.1 h,Reps.aT ds i.2 q⟩
end
mutual
theorem Rep.gP (hH:∀a o,H a=Z9 o->Fix o->H' a=Z9 o):∀{v:V} (d:am),aM d=Z7->Rep K H B v d->Rep K H' B' v d
 |v,.none,_,r=>r
 |v,.bool b,_,r=>r
 |v,.int i,_,r=>r
 |v,.str x,_,r=>r
 |v,.tuple ds,i,r=>by obtain⟨a,vs,e,h,q⟩:=r;exact⟨a,vs,e,h.keep (B:=λ_=>False) (λa o e f=>hH a o e (f.resolve_left id)),Reps.gP hH ds (i) q⟩
 |v,.list ds,i,r=>by cases(show Z6=Z7 from i)
 |v,.dict es,i,r=>by cases(show Z6=Z7 from i)
theorem Reps.gP (hH:∀a o,H a=Z9 o->Fix o->H' a=Z9 o):∀{vs:List V} (ds:List am),imms ds=Z7->Reps K H B vs ds->Reps K H' B' vs ds
 |vs,[],_,r=>r
 |vs,d::ds,i,r=>by have i:=az.mp (show(aM d&&imms ds)=Z7 from i);obtain⟨v,t,e,h,q⟩:=r;exact⟨v,t,e,Rep.gP hH d i.1 h,Reps.gP hH ds i.2 q⟩
end
theorem Reps.length:∀{vs:List V} {a:List D},Reps K H B vs a->vs.length=a.length
 |vs,[],r=>by have e:vs=[]:=r;subst e;rfl
 |vs,d::a,r=>by obtain⟨v,t,rfl,h,q⟩:=r;rw[bz,bz,q.length]
theorem Reps.get:∀{vs:List V} {ds:List D} {i:Nat} {d:D},Reps K H B vs ds->ds[i]?=Z9 d->∃v,vs[i]?=Z9 v/\Rep K H B v d
 |vs,[],i,d,r,e=>by simp at e
 |vs,d0::ds,0,d,r,e=>by
  obtain⟨v,t,rfl,h,q⟩:=r;have:d0=d:=by simpa using e
  subst this;exact⟨v,rfl,h⟩
 |vs,d0::ds,i+1,d,r,e=>by obtain⟨v,t,rfl,h,q⟩:=r;obtain⟨u,h1,h2⟩:=q.get (by simpa using e);exact⟨u,by simpa using h1,h2⟩
theorem Reps.eS:∀{a:List V} {b:List D} {i:Nat} {v:V},Reps K H B a b->a[i]?=Z9 v->∃d,b[i]?=Z9 d/\Rep K H B v d
 |a,[],i,v,r,e=>by have c:a=[]:=r;subst c;simp at e
 |a,d0::b,0,v,r,e=>by
  obtain⟨u,t,rfl,h,q⟩:=r;have:u=v:=by simpa using e
  subst this;exact⟨d0,rfl,h⟩
 |a,d0::b,i+1,v,r,e=>by obtain⟨u,t,rfl,h,q⟩:=r;obtain⟨d,f,g⟩:=q.eS (by simpa using e);exact⟨d,by simpa using f,g⟩
theorem Reps.cons {v:V}{d:D}{a:List V}{ds:List D}(h:Rep K H B v d)(r:Reps K H B a ds):Reps K H B (v::a) (d::ds):=⟨v,a,rfl,h,r⟩
theorem Reps.append:∀{a b:List V} {c es:List D},Reps K H B a c->Reps K H B b es->Reps K H B (a++b) (c++es)
 |a,b,[],es,r,q=>by have e:a=[]:=r;subst e;exact q
 |a,b,d::c,es,r,q=>by obtain⟨v,t,rfl,h,p⟩:=r;exact⟨v,t++b,rfl,h,p.append q⟩
theorem Reps.take:∀{a:List V} {b:List D} n,Reps K H B a b->Reps K H B (a.take n) (b.take n)
 |a,b,0,r=>by rw[List.take_zero];exact rfl
 |a,[],n+1,r=>by have e:a=[]:=r;subst e;exact rfl
 |a,d::b,n+1,r=>by obtain⟨v,t,rfl,h,p⟩:=r;exact⟨v,t.take n,rfl,h,p.take n⟩
theorem Reps.drop:∀{a:List V} {b:List D} n,Reps K H B a b->Reps K H B (a.drop n) (b.drop n)
 |a,b,0,r=>r
 |a,[],n+1,r=>by have e:a=[]:=r;subst e;exact rfl
 |a,d::b,n+1,r=>by obtain⟨v,t,rfl,h,p⟩:=r;exact p.drop n
theorem Reps.set (h:Rep K H B v d):∀{a:List V} {b:List D} n,Reps K H B a b->Reps K H B (a.set n v) (b.set n d)
 |a,[],n,r=>by have e:a=[]:=r;subst e;exact rfl
 |a,d::b,0,r=>by obtain⟨u,t,rfl,_,p⟩:=r;exact⟨_,_,rfl,h,p⟩
 |a,d::b,n+1,r=>by obtain⟨u,t,rfl,h0,p⟩:=r;exact⟨_,_,rfl,h0,p.set h n⟩
mutual
theorem Rep.there:∀{v:V} (d:am),Rep K H B v d->Rep K H (λa=>B a/\¬nw H a) v d
 |v,.none,r=>r
 |v,.bool b,r=>r
 |v,.int i,r=>r
 |v,.str x,r=>r
 |v,.tuple ds,r=>by obtain⟨a,vs,e,h,q⟩:=r;exact⟨a,vs,e,h,Reps.there ds q⟩
 |v,.list ds,r=>by
  obtain⟨a,vs,e,h,q⟩:=r;refine⟨a,vs,e,?_,Reps.there ds q⟩;rcases h with⟨h,b⟩|h
  .refine .inl ⟨h,b,λz=>?_⟩;have z':H a=none:=z;rw[h]at z';cases z'
  .exact .inr ⟨h.1,h.2,λz=>z⟩
 |v,.dict es,r=>by obtain⟨a,kvs,e,h,b,q⟩:=r;exact⟨a,kvs,e,h,⟨b,λz=>by have z':H a=none:=z;rw[h]at z';cases z'⟩,REs.there es q⟩
theorem Reps.there:∀{vs:List V} (ds:List am),Reps K H B vs ds->Reps K H (λa=>B a/\¬nw H a) vs ds
 |vs,[],r=>r
 |vs,d::ds,r=>by obtain⟨v,t,e,h,q⟩:=r;exact⟨v,t,e,Rep.there d h,Reps.there ds q⟩
theorem REs.there:∀{kvs:List (Key×V)} (es:List (am×am)),REs K H B kvs es->REs K H (λa=>B a/\¬nw H a) kvs es
 |kvs,[],r=>r
 |kvs,(kd,d)::es,r=>by obtain⟨k,v,t,e,e2,ok,h,q⟩:=r;exact⟨k,v,t,e,e2,ok,Rep.there d h,REs.there es q⟩
end
end
structure Fm where
 H0:Hp
 V:Addr->Prop
 O:Addr->Option Nat
 z:Prop
def Bin (F:Fm):Ad->Prop
 |some a=>F.O a=Z8/\F.H0 a=Z8/\F.V a
 |none=>False
def bM (F:Fm):Ad->Prop
 |some a=>F.V a
 |none=>F.z
def fD (F:Fm):Ad->Prop
 |some a=>F.H0 a≠Z8/\F.V a
 |none=>F.z
def Slot (K:Z5)(F:Fm)(H:Hp)(i:Nat):G->V->D->Prop
 |.fr,v,d=>∃p,v=.ref p/\F.O p=Z9 i/\((∃vs ds,d=.list ds/\H p=Z9 (.lst vs)/\Reps K H (Bin F) vs ds)\/(∃kvs es,d=.dict es/\H p=Z9 (.dK kvs)/\REs K H (Bin F) kvs es))
 |.od,v,d=>Rep K H (fD F) v d
 |.al,v,d=>Rep K H (bM F) v d
 |.nu,v,d=>Rep K H (Bin F) v d
structure StOk (K:Z5)(F:Fm)(H:Hp)(σ:L2.St)(ρ:Rho):Prop where
 ext:Same F.H0 H
 aK:∀a,H a=Z8->F.V a
 own:∀a i,F.O a=Z9 i->F.H0 a=Z8/\F.V a/\((∃xs,H a=Z9 (.lst xs))\/∃kvs,H a=Z9 (.dK kvs))
 len:σ.length=ρ.length
 sl:∀i g d,ρ[i]?=Z9 (Z9 (g,d))->∃v,σ[i]?=Z9 (Z9 v)/\Slot K F H i g v d
def BG (F:Fm)(H:Hp):G->Ad->Prop
 |.fr=>nw H
 |.od=>fD F
 |.al=>bM F
 |.nu=>λa=>nw H a\/Bin F a
section
variable {K:Z5}{F:Fm}{H H':Hp}{σ:L2.St}{ρ:Rho}
theorem Slot.same (s:Same H H')(h:Slot K F H i g v d):Slot K F H' i g v d:=by
 cases g with
 |fr=>
  obtain⟨p,e,o,h⟩:=h;refine⟨p,e,o,?_⟩;rcases h with⟨a,c,f,j,r⟩|⟨a,c,f,j,r⟩
  .exact .inl ⟨a,c,f,s _ _ j,r.same s λ_ b=>b⟩
  .exact .inr ⟨a,c,f,s _ _ j,r.same s λ_ b=>b⟩
 |od=>exact Rep.same s (λ_ b=>b) h
 |al=>exact Rep.same s (λ_ b=>b) h
 |nu=>exact Rep.same s (λ_ b=>b) h
theorem _root_.L2.Same.none (s:Same H H')(h:H' a=Z8):H a=none:=by
 cases e:H a with
 |none=>rfl
 |some o=>rw[s a o e]at h;cases h
theorem StOk.same (s:Same H H')(h:StOk K F H σ ρ):StOk K F H' σ ρ where
 ext:=λa o e=>s a o (h.ext a o e)
 aK:=λa e=>h.aK a (s.none e)
 own:=λa i e=>by
  obtain⟨c,j,b⟩:=h.own a i e;refine⟨c,j,?_⟩;rcases b with⟨f,b⟩|⟨f,b⟩
  .exact .inl ⟨f,s _ _ b⟩
  .exact .inr ⟨f,s _ _ b⟩
 len:=h.len
 sl:=λi g d e=>by obtain⟨v,c,b⟩:=h.sl i g d e;exact⟨v,c,b.same s⟩
theorem nw.back (s:Same H H')(h:nw H' a):nw H a:=by
 cases a with
 |none=>exact h
 |some a=>exact s.none h
theorem nw.aK (b:∀a,H a=Z8->F.V a)(h:nw H a):bM F a:=by
 cases a with
 |none=>exact h.elim
 |some a=>exact b a h
theorem fD.aK (h:fD F a):bM F a:=by
 cases a with
 |none=>exact h
 |some a=>exact h.2
theorem Bin.aK (h:Bin F a):bM F a:=by
 cases a with
 |none=>exact h.elim
 |some a=>exact h.2.2
theorem BG.back (s:Same H H')(h:BG F H' g a):BG F H g a:=by
 cases g with
 |fr=>exact nw.back s h
 |od=>exact h
 |al=>exact h
 |nu=>exact h.elim (λh=>.inl (nw.back s h)) .inr
theorem BG.aK (b:∀a,H a=Z8->F.V a)(h:BG F H g a):bM F a:=by
 cases g with
 |fr=>exact nw.aK b h
 |od=>exact fD.aK h
 |al=>exact h
 |nu=>exact h.elim (nw.aK b) Bin.aK
theorem Slot.rep (so:∀a i,F.O a=Z9 i->F.V a)(h:Slot K F H i g v d):Rep K H (bM F) v d:=by
 cases g with
 |fr=>
  obtain⟨p,e,o,h⟩:=h;rcases h with⟨c,j,rfl,f,r⟩|⟨c,j,rfl,f,r⟩
  .exact⟨p,c,e,.inl ⟨f,so _ _ o⟩,r.weak λ_ b=>b.aK⟩
  .exact⟨p,c,e,f,so _ _ o,REs.same (λ_ _ e=>e) (λ_ b=>b.aK) r⟩
 |od=>exact Rep.weak (λ_ b=>b.aK) h
 |al=>exact h
 |nu=>exact Rep.weak (λ_ b=>Bin.aK b) h
theorem StOk.iD (h:StOk K F H σ ρ):∀a i,F.O a=Z9 i->F.V a:=λa i e=>(h.own a i e).2.1
theorem StOk.rd (h:StOk K F H σ ρ){i:Nat}(e:zY ρ[i]?=.ok x):∃v,σ[i]?=Z9 (Z9 v)/\Rep K H (BG F H x.1) v x.2:=by
 cases c:ρ[i]? with
 |none=>rw[c]at e;cases e
 |some o=>
  cases o with
  |none=>rw[c]at e;cases e
  |some gd=>
   obtain⟨g,d⟩:=gd;rw[c]at e;obtain⟨v,j,a⟩:=h.sl i g d c;have k:=(Res.ok.inj e).symm;subst k;refine⟨v,j,?_⟩;by_cases f:aM d=Z7
   .show Rep K H (BG F H (if aM d=Z7 then _ else _)) v d;exact Rep.aT d f (a.rep h.iD)
   .show Rep K H (BG F H (if aM d=Z7 then _ else _)) v d;rw[xk f];cases g with
    |fr=>exact a.rep h.iD
    |od=>exact a
    |al=>exact a
    |nu=>exact Rep.weak (λ_ b=>.inr b) a
end
structure Gm where
 N:List Str
 sc:Scope
 blk:Bool:=Z6
 free:List Str
 fns:List (Str×Nat)
 cst:List Str
 cm:Bool:=Z7
 xc:Option (Str×Str):=Z8
 kp:List Str:=[]
section
variable (Γ:Gm)
def eT (i:Nat)(x:Str):Bool:=(Γ.N[i]?==Z9 x)&&(Γ.sc.names.lookup x==Z9 .local||Γ.sc.names.lookup x==Z9 .cell||Γ.sc.names.lookup x==Z9 .free)&& !(x==("__debug__":Str))&& !(x==("__classdict__":Str))
def uQ (x:Str):Bool:=(Γ.sc.names.lookup x==Z9 .globalImplicit)&& !(x==("__debug__":Str))
def cb (x:Str):Bool:=uQ Γ x&&Γ.free.contains x&& !(x==("__name__":Str))
def jR (i:Nat)(x:Str):Bool:=(Γ.N[i]?==Z9 x)&&(Γ.sc.names.lookup x==Z9 .local||(!Γ.blk&&Γ.sc.names.lookup x==Z9 .cell))&&(!Γ.kp.contains x&&Γ.xc.all λp=>!(p.1==x))
end
def tgIx:Tg->List Nat
 |.nm i=>[i]
 |.tp is=>is
def z0 (scope sc:Scope):Scope:={scope with names:=scope.names.map λ(n,k)=>if(k==.free&&sc.kind==.function&&sc.names.lookup n==Z9 .cell)then(n,.cell)else(n,k)}
def plainT:Expr->Bool
 |.UnaryOp .Not _ _=>Z6
 |.BoolOp _ _ _=>Z6
 |.IfExp _ _ _ _=>Z6
 |.Compare _ _ _ _=>Z6
 |_=>Z7
def Ih:Expr->Bool
 |.Compare _ _ _ _=>Z7
 |_=>Z6
def z2n:Expr->Bool
 |.Slice _ _ _ _=>Z6
 |_=>Z7
def rT:Expr->Bool
 |.Call (.Name _ _) [] [] _=>Z6
 |_=>Z7
def oK:Expr->Bool
 |.Set _ _ _=>Z6
 |_=>Z7
def isTup:Expr->Bool
 |.Tuple _ _ _=>Z7
 |_=>Z6
def CN:Expr->Option Str
 |.Name x _=>Z9 x
 |_=>Z8
def iE:Expr->Option Const
 |.Constant v _ _=>Z9 v
 |_=>Z8
def oM:Expr->Option (Expr×ro×Expr)
 |.BinOp l o r _=>Z9 (l,o,r)
 |_=>Z8
def z3:Expr->Option (UnaryOp×Expr)
 |.UnaryOp o x _=>Z9 (o,x)
 |_=>Z8
def pV:Expr->Option (Expr×List CmpOp×List Expr)
 |.Compare l o r _=>Z9 (l,o,r)
 |_=>Z8
def uR:Expr->Option (BoolOp×List Expr×Pos)
 |.BoolOp o xs p=>Z9 (o,xs,p)
 |_=>Z8
def xK:Expr->Option (Expr×Expr×Expr)
 |.IfExp t x y _=>Z9 (t,x,y)
 |_=>Z8
def lW:Expr->Option (List Expr)
 |.Tuple es _ _=>Z9 es
 |_=>Z8
def oN:Expr->Option (List Expr)
 |.List es _=>Z9 es
 |_=>Z8
def z4:Expr->Option (List (Option Expr)×List Expr)
 |.Dict k v _=>Z9 (k,v)
 |_=>Z8
def gQ:Expr->Option (Expr×Expr)
 |.Subscript x i _=>Z9 (x,i)
 |_=>Z8
def xM:Expr->Option (Option Expr×Option Expr×Option Expr)
 |.Slice l h s _=>Z9 (l,h,s)
 |_=>Z8
def CO:Expr->Option (Expr×List Expr×List sr×Pos)
 |.Call f es k p=>Z9 (f,es,k,p)
 |_=>Z8
def Ii:Expr->Option (Expr×Str×Pos)
 |.Attribute x n p=>Z9 (x,n,p)
 |_=>Z8
def CP:Expr->Option (Expr×List Comprehension×Scope)
 |.ListComp el gs s _=>Z9 (el,gs,s)
 |_=>Z8
def bB {α:Type}:List α->Option α
 | [x]=>Z9 x
 |_=>Z8
def rU {α:Type}:List α->Option (α×α)
 | [x,y]=>Z9 (x,y)
 |_=>Z8
def hP (e:Expr):Option (Str×List Expr):=(CO e).bind λv=>if v.2.2.1.isEmpty then(CN v.1).map λx=>(x,v.2.1)else Z8
def oO (e:Expr):Option (Expr×Str×List Expr×Bool):=(CO e).bind λv=>if v.2.2.1.isEmpty then(Ii v.1).map λu=>(u.1,u.2.1,v.2.1,u.2.2.endLine==v.2.2.2.line)else Z8
def uS (f g:Expr->Bool)(o:BoolOp)(p:Pos):List Expr->Bool
 |x::y::r=>f x&&(if r.isEmpty then g y else g (.BoolOp o (y::r) p))
 |_=>Z6
def xN (n:Bool)(f:Expr->Bool):List Expr->Bool
 | []=>n
 |t::r=>r.isEmpty&&f t
def xO:C->Bool
 |.nil=>Z7
 |_=>Z6
def gR (f:Str->Bool)(e:Expr):Bool:=(CN e).any f
def CQ (Γ:Gm):List Nat->List Expr->Bool
 | [],es=>es.isEmpty
 |i::is,es=>match es with|e::es=>gR (jR Γ i) e&&CQ Γ is es| []=>Z6
def kP (Γ:Gm):Tg->Expr->Bool
 |.nm i,e=>gR (jR Γ i) e
 |.tp is,e=>Γ.cm&&(lW e).any (CQ Γ is)
def z5:ro->Bool
 |.Add|.Sub|.Mult|.FloorDiv|.Mod|.Pow=>Z7
 |_=>Z6
def z57:CmpOp->Bool
 |.Is|.IsNot|.LtE=>Z6
 |_=>Z7
def CS (T:String):Bool:=tysB.contains T
def tyB (Γ:Gm)(T:String)(t:Expr):Bool:=gR (λx=>(x==Str.ofString T)&&cb Γ x&&CS T) t
def rV:List String:=["tuple","sorted","sum","all","any","dict"]
def Pq:Tg->Bool
 |.nm _=>Z7
 |.tp _=>Z6
def isNm:Expr->Bool
 |.Name _ _=>Z7
 |_=>Z6
def z6:C->Expr->Bool
 |.enum _,e=>isTup e
 |.zip _ _,e=>isTup e||isNm e
 |_,_=>Z7
mutual
def chkE (Γ:Gm):C->Expr->Bool
 |.var i,e=>gR (eT Γ i) e
 |.bG,e=>decide (iE e=Z9 .none)
 |.bl b,e=>decide (iE e=Z9 (.bool b))
 |.int i,e=>decide (iE e=Z9 (.int i))
 |.str x,e=>decide (iE e=Z9 (.str x))&&Z2 x
 |.glob _ _,_=>Z6
 |.bin op a b,e=>(oM e).any λv=>decide (op=v.2.1)&&z5 op&&chkE Γ a v.1&&chkE Γ b v.2.2
 |.cmp op a b,e=>(pV e).any λv=>decide (v.2.1=[op])&&(bB v.2.2).any λr=>z57 op&& !(fj op r)&&chkE Γ a v.1&&chkE Γ b r
 |.and a b,e=>(uR e).any λv=>decide (v.1=.And)&&uS (λx=>chkE Γ a x) (λx=>chkE Γ b x) .And v.2.2 v.2.1
 |.or a b,e=>(uR e).any λv=>decide (v.1=.Or)&&uS (λx=>chkE Γ a x) (λx=>chkE Γ b x) .Or v.2.2 v.2.1
 |.not a,e=>(z3 e).any λv=>decide (v.1=.Not)&&chkE Γ a v.2
 |.jN c a b,e=>(xK e).any λv=>eE Γ c v.1&&chkE Γ a v.2.1&&chkE Γ b v.2.2
 |.tup xs,e=>(lW e).any λes=>decide (es.length<=1000)&&dN Γ xs es
 |.lst xs,e=>(oN e).any λes=>decide (es.length<=1000)&&dN Γ xs es
 |.rep xs b,e=>(oM e).any λv=>decide (v.2.1=.Mult)&&(oN v.1).any λes=>decide (es.length<=1000)&&dN Γ xs es&&chkE Γ b v.2.2
 |.dR,e=>(z4 e).any λv=>v.1.isEmpty&&v.2.isEmpty
 |.ix a b,e=>(gQ e).any λv=>z2n v.2&&chkE Γ a v.1&&chkE Γ b v.2
 |.sl a lo hi,e=>(gQ e).any λv=>(xM v.2).any λs=>s.2.2.isNone&&chkE Γ a v.1&&oP Γ lo s.1&&oP Γ hi s.2.1
 |.call k f args,e=>(hP e).any λv=>(Γ.cm&&(v.1==f))&&uQ Γ v.1&&(Γ.fns[k]?==Z9 (f,v.2.length))&&dN Γ args v.2&& !v.2.isEmpty
 |.bi f args,e=>(hP e).any λv=>(v.1==Str.ofString f)&&cb Γ v.1&&((["len","max","int"].contains f)&&(Γ.cm||f=="int"))&&dN Γ args v.2&& !v.2.isEmpty
 |.gO f a,e=>(hP e).any λv=>(v.1==Str.ofString f)&&cb Γ v.1&&(rV.contains f&&Γ.cm)&&(bB v.2).any λy=>!isStar y&&rW Γ a y
 |.rN a ts,e=>(hP e).any λv=>(v.1==("isinstance":Str))&&cb Γ v.1&&(rU v.2).any λy=>!isStar y.1&&chkE Γ a y.1&&(bB ts).any λT=>tyB Γ T y.2
 |.mt m o args,e=>(oO e).any λv=>((v.2.1==Str.ofString m)&& ["get"].contains m&&rT v.1&&v.2.2.2&&decide (v.2.2.1.length<20))&&chkE Γ o v.1&&dN Γ args v.2.2.1&& !v.2.2.1.isEmpty
 |.comp nt js N' tg it cond elt,e=>(CP e).any λv=>(bB v.2.1).any λg=>let CT:Gm:={Γ with N:=N',sc:=z0 v.2.2 Γ.sc,blk:=Z7,xc:=Z8,kp:=[]}
  ((Γ.cm&&(g.is_async==0))&&(tgIx tg).all (λi=>decide (i<nt))&&nZ Γ.N Γ.sc v.2.2 N' nt js&&oK g.iter&&decide N'.Nodup)&&(kP CT tg g.target&&z6 it g.target)&&iF Γ it g.iter&&xN (xO cond) (λt=>eE CT cond t) g.ifs&&chkE CT elt v.1
 |.sortI i,e=>(hP e).any λv=>(Γ.cm&&(v.1==("sorted":Str)))&&cb Γ v.1&&(bB v.2).any λy=>(oO y).any λm=>gR (eT Γ i) m.1&&(m.2.1==("items":Str))&&m.2.2.1.isEmpty&&m.2.2.2
 |.kM _,_=>Z6
 |.enum _,_=>Z6
 |.zip _ _,_=>Z6
 |.tv _,_=>Z6
 |.nil,_=>Z6
 |.cons _ _,_=>Z6
def eE (Γ:Gm):C->Expr->Bool
 |.and a b,e=>(uR e).any λv=>decide (v.1=.And)&&uS (λx=>eE Γ a x) (λx=>eE Γ b x) .And v.2.2 v.2.1
 |.or a b,e=>(uR e).any λv=>decide (v.1=.Or)&&uS (λx=>eE Γ a x) (λx=>eE Γ b x) .Or v.2.2 v.2.1
 |.not a,e=>(z3 e).any λv=>decide (v.1=.Not)&&eE Γ a v.2
 |.tv a,e=>(plainT e||Ih e)&&chkE Γ a e
 |_,_=>Z6
def dN (Γ:Gm):C->List Expr->Bool
 |.nil,es=>es.isEmpty
 |.cons a r,es=>match es with|e::es=>!isStar e&&chkE Γ a e&&dN Γ r es|_=>Z6
 |_,_=>Z6
def oP (Γ:Gm):C->Option Expr->Bool
 |.nil,e=>e.isNone
 |.tv a,e=>e.any λe=>chkE Γ a e
 |_,_=>Z6
def iF (Γ:Gm):C->Expr->Bool
 |.kM args,e=>(hP e).any λv=>(v.1==("range":Str))&&cb Γ v.1&&dN Γ args v.2&&(!v.2.isEmpty&&decide (v.2.length<=3))
 |.tv a,e=>oK e&&chkE Γ a e
 |.enum a,e=>(hP e).any λv=>(v.1==("enumerate":Str))&&cb Γ v.1&&(bB v.2).any λy=>!isStar y&&chkE Γ a y
 |.zip a b,e=>(hP e).any λv=>(v.1==("zip":Str))&&cb Γ v.1&&(rU v.2).any λy=>(!isStar y.1&& !isStar y.2)&&chkE Γ a y.1&&chkE Γ b y.2
 |_,_=>Z6
def rW (Γ:Gm):C->Expr->Bool
 |.tv a,e=>chkE Γ a e
 |_,_=>Z6
end
def lX:C->Bool
 |_=>Z6
def xP (Γ:Gm)(it:C)(tg ie:Expr):Bool:=z6 it tg&&iF Γ it ie
def xQ:Stmt->Option (List Expr×Expr)
 |.Assign t v _=>Z9 (t,v)
 |_=>Z8
def uU:Stmt->Option Expr
 |.Expr v _=>Z9 v
 |_=>Z8
def CU:Stmt->Option (Option Expr)
 |.Return v _=>Z9 v
 |_=>Z8
def CV:Stmt->Option (Expr×List Stmt×List Stmt)
 |.If t A B _=>Z9 (t,A,B)
 |_=>Z8
def pW:Stmt->Option (Expr×Expr×List Stmt×List Stmt)
 |.For t i B o _=>Z9 (t,i,B,o)
 |_=>Z8
mutual
def oQ (Γ:Gm):S->Stmt->Bool
 |.bad,_=>Z7
 |.asg t e,s=>(xQ s).any λu=>(bB u.1).any λx=>kP Γ t x&& !lX e&&(Pq t||(!z25 u.2&& !isTup u.2))&&chkE Γ e u.2
 |.dX i k v,s=>(xQ s).any λu=>(bB u.1).any λx=>(gQ x).any λw=>gR (eT Γ i) w.1&&z2n w.2&& !z25 u.2&&chkE Γ k w.2&&chkE Γ v u.2
 |.mut m i args,s=>(uU s).any λc=>(oO c).any λv=>(gR (eT Γ i) v.1&&(v.2.1==Str.ofString m)&& ["append"].contains m&&v.2.2.2&&decide (v.2.2.1.length<20))&& !v.2.2.1.isEmpty&&dN Γ args v.2.2.1
 |.drop e,s=>(uU s).any λv=>!z25 v&&chkE Γ e v
 |.ret e,s=>(CU s).any λo=>o.any λv=>chkE Γ e v
 |.aZ c a b,s=>(CV s).any λv=>eE Γ c v.1&&chkL Γ a v.2.1&&chkL Γ b v.2.2
 |.aV t it b,s=>Γ.cm&&(pW s).any λv=>kP Γ t v.1&&xP Γ it v.1 v.2.1&&chkL Γ b v.2.2.1&&v.2.2.2.isEmpty
 |.nil,_=>Z6
 |.seq _ _,_=>Z6
def chkL (Γ:Gm):S->List Stmt->Bool
 |.nil,l=>l.isEmpty
 |.seq a b,l=>match l with|s::r=>oQ Γ a s&&chkL Γ b r|_=>Z6
 |_,_=>Z6
end
def tD (K:Z5)(f:Rho->Res GD):TE:=λσ H Q=>∃ρ F x,StOk K F H σ ρ/\f ρ=.ok x/\∀v H',Same H H'->Rep K H' (BG F H x.1) v x.2->Q v H'
def dS (K:Z5)(f:Rho->Res Bool):TT:=λσ H Q=>∃ρ F b,StOk K F H σ ρ/\f ρ=.ok b/\∀H',Same H H'->Q b H'
def tDO (K:Z5)(f:Rho->Res (Option Int)):TO:=λσ H Q=>∃ρ F b,StOk K F H σ ρ/\f ρ=.ok b/\∀H',Same H H'->Q b H'
def dH (K:Z5)(F:Fm)(H H':Hp):List V->List GD->Prop
 |vs,[]=>vs=[]
 |vs,x::xs=>∃v r,vs=v::r/\Rep K H' (BG F H x.1) v x.2/\dH K F H H' r xs
def tDA (K:Z5)(f:Rho->Res (List GD)):TA:=λσ H Q=>∃ρ F xs,StOk K F H σ ρ/\f ρ=.ok xs/\∀vs H',Same H H'->dH K F H H' vs xs->Q vs H'
theorem _root_.L2.PE.imp (h:PE X e t)(i:∀a H Q,c a H Q->t a H Q):PE X e c:=λb s a H Q I q=>h b s a H Q I (i a H Q q)
theorem _root_.L2.PT.imp (h:PT X e t)(i:∀a H Q,c a H Q->t a H Q):PT X e c:=λb s a H Q I q=>h b s a H Q I (i a H Q q)
theorem _root_.L2.PW.imp (h:PW X e t)(i:∀a H Q,c a H Q->t a H Q):PW X e c:=λwh b s a H Q I q=>h wh b s a H Q I (i a H Q q)
theorem _root_.L2.PA.imp (h:PA X e t)(i:∀a H Q,c a H Q->t a H Q):PA X e c:=λpos b s a H Q I q=>h pos b s a H Q I (i a H Q q)
theorem _root_.L2.PO.imp (h:PO X e t)(i:∀a H Q,c a H Q->t a H Q):PO X e c:=λb s a H Q I q=>h b s a H Q I (i a H Q q)
theorem _root_.L2.PS.imp (h:PS X e t)(i:∀D a H,c D a H->t D a H):PS X e c:=λb s a H D I q=>h b s a H D I (i D a H q)
theorem _root_.L2.PSs.imp (h:PSs X e t)(i:∀D a H,c D a H->t D a H):PSs X e c:=λb s a H D I q=>h b s a H D I (i D a H q)
section
variable {K:Z5}{F:Fm}{H H1 H':Hp}
theorem dH.back:∀{a:List V} {c:List GD},Same H H1->dH K F H1 H' a c->dH K F H H' a c
 |a,[],_,r=>r
 |a,x::c,s,r=>by obtain⟨v,t,e,h,q⟩:=r;exact⟨v,t,e,h.weak λ_ b=>b.back s,q.back s⟩
theorem dH.jS:∀{b:List V} {c:List GD},(∀x∈c,∀a,BG F H x.1 a->B a)->dH K F H H' b c->Reps K H' B b (c.map (·.2))
 |b,[],_,r=>r
 |b,x::c,d,r=>by obtain⟨v,t,e,h,q⟩:=r;exact⟨v,t,e,h.weak (d x bj),q.jS λy f=>d y (b0 _ f)⟩
theorem dH.iU (b:∀a,H a=Z8->F.V a)(r:dH K F H H' c d):Reps K H' (bM F) c (d.map (·.2)):=r.jS λ_ _ _ h=>h.aK b
theorem uV (f:∀a,H a=Z8->F.V a)(c:x∈d)(h:BG F H x.1 a):BG F H (cC d) a:=by
 unfold cC;by_cases e:(d.all λx=>x.1==.fr)=Z7
 .rw[xh e];have:=(bg.mp e) x c;have b:x.1=.fr:=by simpa using this
  rw[b]at h;exact h
 .rw[xk e];split
  .rename_i g;have:=(bg.mp g) x c;rcases ij.mp this with b|b
   .rw[eq_of_beq b]at h;exact .inl h
   .rw[eq_of_beq b]at h;exact h
  .exact h.aK f
theorem CW (b:∀a,H a=Z8->F.V a)(s:Same H H1)(h:nw H1 a):BG F H (cC c) a:=by
 unfold cC;by_cases e:(c.all λx=>x.1==.fr)=Z7
 .rw[xh e];exact nw.back s h
 .rw[xk e];split
  .exact .inl (nw.back s h)
  .exact(nw.back s h).aK b
theorem pX (r:Rep K H' B v d)(h:∀a,B a->BG F H g a):Rep K H' (BG F H (gJ d g)) v d:=by
 unfold gJ;by_cases e:aM d=Z7
 .rw[xh e];exact Rep.aT d e r
 .rw[xk e];exact r.weak h
end
def uW (K:Z5)(m:D->D->Res D):R2:=λx y H Q=>∃Bx By dx dy d,Rep K H Bx x dx/\Rep K H By y dy/\m dx dy=.ok d/\∀w H',Same H H'->Rep K H' (λa=>nw H a\/Bx a\/By a) w d->Q w H'
def oR (X:Cx)(f:Value->Value->Sem Value)(m:D->D->Res D):Prop:=OpR X f (uW X.K m)
def oS (K:Z5)(m:D->D->Res D):R2:=λx y H Q=>∃Bx By dx dy d,Rep K H Bx x dx/\Rep K H By y dy/\m dx dy=.ok d/\∀w H',Same H H'->Rep K H' (λa=>nw H a\/Bx a\/By a) w d->(∀ds,d=.list ds->imms ds=Z7->Rep K H' (nw H) w d)->Q w H'
def CY (X:Cx)(f:Value->Value->Sem Value)(m:D->D->Res D):Prop:=OpR X f (oS X.K m)
theorem _root_.L2.OpR.imp (h:OpR X f r)(i:∀x y H Q,b x y H Q->r x y H Q):OpR X f b:=λa s c H x y v u Q I d e q=>h a s c H x y v u Q I d e (i x y H Q q)
def zff (K:Z5)(m:List D->Res D):List V->Hp->VK->Prop:=λxs H Q=>∃B ds d,Reps K H B xs ds/\m ds=.ok d/\∀w H',Same H H'->Rep K H' (λa=>nw H a\/B a) w d->Q w H'
theorem _root_.L2.CallR.imp (h:CallR X f r)(i:∀x H Q,b x H Q->r x H Q):CallR X f b:=λa s c H x v Q I d q=>h a s c H x v Q I d (i x H Q q)
theorem Pr (a:Z2 x=Z7)(b:Z2 y=Z7):Z2 (x++y)=true:=by
 unfold Z2 at *
 show(x.cps++y.cps).all _=Z7;rw[Array.all_append,a,b];rfl
theorem z7:Z2 x=Z7↔∀c∈x.cps.toList,c<0x110000:=by unfold Z2;rw[<-Array.all_toList];rw[bg];exact⟨λh c a=>by simpa using h c a,λh c a=>by simpa using h c a⟩
theorem Pt (a:Z2 x=Z7)(hc:c∈x.cps.toList):Z2 ⟨#[c]⟩=true:=
 z7.mpr λd hd=>by
  have e:d=c:=by simpa using hd
  rw[e];exact z7.mp a c hc
theorem jT (h:n<=aQ):n<=bb:=a8 h (by rw[bt];unfold aQ;decide)
theorem _root_.L2.bF.rel {K:Z5}(s:Same H b)(h:bF K H a c):bF K b a c:=h.keep (B:=λ_=>True) λa o e _=>s a o e
section
variable {X:Cx}
def Pu (K:Z5):R2:=λx y H Q=>∃l b xs zs,x=.ref l/\y=.ref b/\SqL K H l xs/\SqL K H b zs/\xs.length+zs.length<=bb/\∀p,H p=Z8->Q (.ref p) (upd H p (.lst (xs++zs)))
theorem Pw:OpR X (ig .Add) (Pu X.K):=by
 rintro k s M H x y v u Q I w z ⟨l,b,N,O,rfl,rfl,A,B,m,q⟩
 cases w;cases z;obtain⟨c,o,C,_⟩:=I.list A;obtain⟨a,p,D,_⟩:=I.list B;obtain⟨⟨E,dd,r,sl⟩,n,ho,G,_,hd⟩:=C;obtain⟨⟨t,f,g,h⟩,J,d,i,_,j⟩:=D;subst G hd i j;have e:c.toArray.size+a.toArray.size<=bb:=by rw[bw,bw,<-o.length,<-p.length];exact m
 refine qh ⟨_,ho,rfl⟩ ⟨_,d,rfl⟩ noFill_list_add seq_list_add PySem.F.slot_list_add PySem.F.entry_list_add (PySem.F.args_list_add_2 _ _) (list_addW l b c.toArray a.toArray n J dd f sl h e) ⟨ho,d,?_⟩;have L:c.toArray++a.toArray=(c++a).toArray:=by simp
 rw[L];exact⟨.ref _,_,I.lnew (o.append p) (cg▸m),rfl,q _ I.fresh⟩
def Px (K:Z5):R2:=λx y H Q=>∃a b ys,x=.ref a/\y=.ref b/\bF K H a []/\bF K H b ys/\Q (.ref b) H
theorem Py:OpR X (ig .Add) (Px X.K):=by
 rintro i s E H x y v u Q I m o ⟨l,b,G,rfl,rfl,p,r,q⟩
 cases m;cases o;obtain⟨t,w,z,_⟩:=I.tuple p;obtain⟨a,J,A,_⟩:=I.tuple r;cases w;obtain⟨⟨B,dd,j,sl⟩,ho,C,n,hd⟩:=z;obtain⟨⟨k,d,e,f⟩,c,g,D,h⟩:=A;subst C hd g h;refine qh ⟨_,ho,rfl⟩ ⟨_,c,rfl⟩ p6 t6 PySem.F.slot_tuple_add PySem.F.entry_tuple_add (PySem.F.args_tuple_add_2 _ _) (tuple_addW0 l b _ a.toArray n D dd d sl f (by simp)) ⟨ho,c,?_⟩;exact⟨.ref b,H,I,rfl,q⟩
variable {K:Z5}{H:Hp}{B:Ad->Prop}{v:V}
theorem kQ (r:Rep K H B v (.list c)):∃a b,v=.ref a/\SqL K H a b/\Reps K H B b c:=by
 obtain⟨a,b,e,h,q⟩:=r;refine⟨a,b,e,?_,q⟩;rcases h with⟨h,_⟩|⟨h|h,_⟩
 .exact .inl (.inl h)
 .exact .inl (.inr h)
 .exact .inr h
theorem oT (c:H p=Z8)(r:Reps K H B b d)(e:∀a,B a->B' a)(f:B' (Z9 p)):Rep K (upd H p (.lst b)) B' (.ref p) (.list d):=⟨p,b,rfl,.inl ⟨aO,f⟩,r.same (Same.upd c) e⟩
theorem z8 (c:H p=Z8)(r:Reps K H B b d)(e:∀a,B a->f a):Rep K (upd H p (.tup b)) f (.ref p) (.tuple d):=⟨p,b,rfl,.inl (.inl aO),r.same (Same.upd c) e⟩
theorem fE {b:Type}{a:b}(h:(Res.no:Res b)=.ok a):False:=by cases h
theorem Pz:CY X (ig .Add) (cE .Add):=by
 refine OpR.imp ((Pd.or Pw).or Py) λx y H Q h=>?_;obtain⟨u,v,w,A,d,k,l,e,q⟩:=h;cases w<;>try (exact(fE e).elim)
 all_goals cases A<;>try (exact(fE e).elim)
 case int.int i j=>cases e;have r:=k;have s:=l;subst r s;exact .inl (.inl (Pj (q _ H (Same.refl H) rfl λm z=>by cases z)))
 case str.str i j=>
  have r:=k.1;have s:=l.1;subst r s;have e:(if i.length+j.length<=aQ then Res.ok (Z1 (i++j))else Res.no)=Res.ok d:=e;split at e
  .rename_i hl;cases e;exact .inl (.inl (Pk (jT hl) (q _ H (Same.refl H) ⟨rfl,Pr k.2 l.2⟩ λm z=>by cases z)))
  .cases e
 case list.list xs ys=>
  have e:(if xs.length+ys.length<=aQ then Res.ok (Z0 (xs++ys))else Res.no)=Res.ok d:=e;split at e
  .rename_i hl;cases e;obtain⟨a,t,rfl,n,c⟩:=kQ k;obtain⟨b,ws,rfl,o,f⟩:=kQ l;refine .inl (.inr ⟨a,b,t,ws,rfl,rfl,n,o,jT (by rw[c.length,f.length];exact hl),λp g=>q _ _ (Same.upd g) ?_ ?_⟩)
   .exact oT g (Reps.append (c.weak λ_ z=>.inr (.inl z)) (f.weak λ_ z=>.inr (.inr z))) (λ_ z=>z) (.inl g)
   .intro m z B;cases z;exact oT g (Reps.aT _ B (Reps.append (c.weak (B':=λa=>nw H a\/u a\/v a) λ_ z=>.inr (.inl z)) (f.weak λ_ z=>.inr (.inr z)))) (λ_ z=>z) g
  .cases e
 case tuple.tuple xs ys=>
  have e:(if xs.length+ys.length<=aQ then Res.ok (PyData.tuple (xs++ys))else Res.no)=Res.ok d:=e;split at e
  .rename_i hl;cases e;obtain⟨a,t,rfl,n,c⟩:=k;obtain⟨b,ws,rfl,o,f⟩:=l;cases t with
   |nil=>
    have:xs=[]:=by have:=c.length;exact jc.mp this.symm
    subst this;exact .inr ⟨a,b,ws,rfl,rfl,n,o,q _ H (Same.refl H) ⟨b,ws,rfl,o,f.weak λ_ z=>.inr (.inr z)⟩ λm z=>by cases z⟩
   |cons C D=>
    refine .inl (.inl (.inr (.inr (.inr ⟨a,b,C::D,ws,rfl,rfl,n,o,by simp,jT (by rw[c.length,f.length];exact hl),λz=>?_,λz p g=>q _ _ (Same.upd g) ?_ λm z=>by cases z⟩))))
    .subst z;have:ys=[]:=by have:=f.length;exact jc.mp this.symm
     subst this;rw[ce]at q;exact q _ H (Same.refl H) ⟨a,_,rfl,n,c.weak λ_ z=>.inr (.inl z)⟩ λm z=>by cases z
    .exact z8 g (Reps.append (c.weak λ_ z=>.inr (.inl z)) (f.weak λ_ z=>.inr (.inr z))) (λ_ z=>z)
  .cases e
theorem xR {gd:Int->Int->D}(h:OpR X f (rI b g))(a:∀i j H B,Rep X.K H B (g i j) (gd i j))(hm:∀dx dy d,m dx dy=.ok d->∃i j,dx=.int i/\dy=.int j/\b i j/\d=gd i j):CY X f m:=by refine OpR.imp h λx y H Q h=>?_;obtain⟨n,o,dx,dy,d,k,l,e,q⟩:=h;obtain⟨i,j,rfl,rfl,c,rfl⟩:=hm dx dy d e;exact⟨i,j,k,l,c,q _ H (Same.refl H) (a i j _ _) λ_ _ _=>a i j _ _⟩
theorem PB (h:OpR X f (lM g)):OpR X f (rI (λ_ _=>True) g):=OpR.imp h λx y H Q ⟨i,j,a,b,_,q⟩=>⟨i,j,a,b,q⟩
theorem PD:OpR X (ig .FloorDiv) (rI (λ_ j=>0<j/\j<2 ^ 200) λi j=>.int (i/j)):=opI λi j _ _ _ _ _ hc q=>by
 refine floordiv_int (by omega) (by rw[Int.fdiv_eq_ediv_of_nonneg i (by omega)];exact q) (.inl (PyProof.noPylong_of_log2 ?_));have a:j.natAbs<2 ^ 200:=by omega
 have b:=(Nat.log2_lt (by omega)).mpr a;omega
theorem Ij (a:ro)(h:z5 a=Z7):CY X (ig a) (cE a):=by
 cases a<;>try (cases h;done)
 case Add=>exact Pz
 case Sub=>
  refine xR (PB N6) (gd:=λi j=>.int (i-j)) (λ_ _ _ _=>rfl) λdx dy d e=>?_;cases dx<;>try (exact(fE e).elim)
  cases dy<;>try (exact(fE e).elim)
  cases e;simp_all
 case Mult=>
  refine xR N7 (gd:=λi j=>.int (i*j)) (λ_ _ _ _=>rfl) λdx dy d e=>?_;cases dx<;>try (exact(fE e).elim)
  cases dy<;>try (exact(fE e).elim)
  rename_i i j;have e:(if(-(2 ^ 64)<i/\i<2 ^ 64)\/(-(2 ^ 64)<j/\j<2 ^ 64)then Res.ok (ZZ (i*j))else Res.no)=Res.ok d:=e;split at e
  .rename_i hc;cases e;exact⟨_,_,rfl,rfl,hc,rfl⟩
  .cases e
 case FloorDiv=>
  refine xR PD (gd:=λi j=>.int (i/j)) (λ_ _ _ _=>rfl) λdx dy d e=>?_;cases dx<;>try (exact(fE e).elim)
  cases dy<;>try (exact(fE e).elim)
  rename_i i j;have e:(if 0<j/\j<2 ^ 200 then Res.ok (ZZ (i/j))else Res.no)=Res.ok d:=e;split at e
  .rename_i hc;cases e;simp_all
  .cases e
 case Mod=>
  refine xR N8 (gd:=λi j=>.int (i%j)) (λ_ _ _ _=>rfl) λdx dy d e=>?_;cases dx<;>try (exact(fE e).elim)
  cases dy<;>try (exact(fE e).elim)
  rename_i i j;have e:(if 0<j then Res.ok (ZZ (i%j))else Res.no)=Res.ok d:=e;split at e
  .rename_i hc;cases e;simp_all
  .cases e
 case Pow=>
  refine xR N9 (gd:=λi j=>.int (i ^ j.toNat)) (λ_ _ _ _=>rfl) λdx dy d e=>?_;cases dx<;>try (exact(fE e).elim)
  cases dy<;>try (exact(fE e).elim)
  rename_i i j;have e:(if 0<=j/\j<=1000/\i.natAbs<2 ^ 64 then Res.ok (ZZ (i ^ j.toNat))else Res.no)=Res.ok d:=e;split at e
  .rename_i hc;cases e;exact⟨_,_,rfl,rfl,⟨hc.1,by omega,hc.2.2⟩,rfl⟩
  .cases e
end
section
variable {X:Cx}{pins:List (Addr×Obj)}{σ:L2.St}{H:Hp}{s:ay}{B:Ad->Prop}
mutual
theorem Rep.reads (I:Inv X pins σ H s):∀{v:V} {u:Value} (d:am) (n:Nat),aG n d=Z7->Rep X.K H B v d->RelV v u->(∃as,Reads s.heap u d as)/\d.canLay0=Z7/\d.depth<=n
 |v,u,.none,n,_,r,q=>by have e:v=.bG:=r;subst e;cases q;exact⟨⟨[],.none⟩,by simp only[ZY],be _⟩
 |v,u,.bool b,n,_,r,q=>by have e:v=.bl b:=r;subst e;cases q;exact⟨⟨[],.bool b⟩,by simp only[ZY],be _⟩
 |v,u,.int b,n,_,r,q=>by have e:v=.int b:=r;subst e;obtain⟨t,rfl⟩:=q;exact⟨⟨[],.int b t⟩,by simp only[ZY],be _⟩
 |v,u,.str b,n,_,r,q=>by obtain⟨e,ok⟩:v=.str b/\_:=r;subst e;obtain⟨t,rfl⟩:=q;exact⟨⟨[],.str b t⟩,by simp only[ZY];exact ok,be _⟩
 |v,u,.tuple ds,0,h,r,q=>by cases h
 |v,u,.list ds,0,h,r,q=>by cases h
 |v,u,.tuple ds,n+1,h,r,q=>by obtain⟨a,vs,e,h1,r1⟩:=r;subst e;cases q;obtain⟨dE,rv,⟨o,ho,hc,k,hd⟩,_⟩:=I.tuple h1;obtain⟨⟨as,ra⟩,c,dp⟩:=Reps.reads I ds n (h) r1 rv;refine⟨⟨as,.tuple ho hc hd (by simpa using ra)⟩,by simp only[ZY];exact c,?_⟩;simp only[PyData.depth];omega
 |v,u,.list ds,n+1,h,r,q=>by obtain⟨a,vs,e,h1,r1⟩:=kQ r;subst e;cases q;obtain⟨dE,rv,⟨o,k,ho,hc,_,hd⟩,_⟩:=I.list h1;obtain⟨⟨as,ra⟩,c,dp⟩:=Reps.reads I ds n (h) r1 rv;refine⟨⟨a::as,.list ho hc hd (by simpa using ra)⟩,by simp only[ZY];exact c,?_⟩;simp only[PyData.depth];omega
 |v,u,.dict es,n,h,r,q=>by cases n<;>cases h
theorem Reps.reads (I:Inv X pins σ H s):∀{vs:List V} {us:List Value} (ds:List am) (n:Nat),dM n ds=Z7->Reps X.K H B vs ds->Vals vs us->(∃as,ReadsAll s.heap us ds as)/\PyData.canLayAll0 ds=Z7/\PyData.depthAll ds<=n
 |vs,us,[],n,_,r,q=>by have e:vs=[]:=r;subst e;cases q;exact⟨⟨[],.nil⟩,by simp only[PyData.canLayAll0],be _⟩
 |vs,us,d::ds,n,h,r,q=>by
  obtain⟨v,t,e,h1,r1⟩:=r;subst e;rw[dM,bq]at h;cases q with
  |cons q1 q2=>obtain⟨⟨as,ra⟩,c,dp⟩:=Rep.reads I d n h.1 h1 q1;obtain⟨⟨bs,rb⟩,c2,PF⟩:=Reps.reads I ds n h.2 r1 q2;refine⟨⟨as++bs,.cons ra rb⟩,by simp only[PyData.canLayAll0,c,c2,Bool.and_self],?_⟩;simp only[PyData.depthAll];exact Nat.max_le.mpr ⟨dp,PF⟩
end
end
section
variable {X:Cx}
def mB (m:D->D->Res Bool):D->D->Res D:=λx y=>m x y>>=λb=>.ok (.bool b)
theorem xS (h:mB m x y=.ok d):∃b,m x y=.ok b/\d=.bool b:=by obtain⟨b,a,c⟩:=Res.aB h;exact⟨b,a,(Res.ok.inj c).symm⟩
theorem CZ (hu:X.A.units+64<cLine):oR X (eh .Eq) (mB (cmpD .Eq)):=by
 rintro a s n H x y v u Q I c f ⟨o,p,dx,dy,d,g,h,e,q⟩
 obtain⟨b,i,rfl⟩:=xS e;have e:=i;have e:(if(aG 40 dx&&aG 40 dy)=Z7 then Res.ok (cc dx dy)else Res.no)=Res.ok b:=e;split at e
 .rename_i hs;cases e;rw[bq]at hs;obtain⟨⟨as,j⟩,k,r⟩:=Rep.reads I dx 40 hs.1 g c;obtain⟨⟨bs,l⟩,m,t⟩:=Rep.reads I dy 40 hs.2 h f;exact SeqAt.compareEq_reads j l k m (by omega) ⟨.bl _,H,I,rfl,q _ H (Same.refl H) rfl⟩
 .cases e
theorem C0 (hu:X.A.units+64<cLine):oR X (eh .NotEq) (mB (cmpD .NotEq)):=by
 rintro a s n H x y v u Q I c f ⟨o,p,dx,dy,d,g,h,e,q⟩
 obtain⟨b,i,rfl⟩:=xS e;have e:=i;have e:(if(aG 40 dx&&aG 40 dy)=Z7 then Res.ok (!cc dx dy)else Res.no)=Res.ok b:=e;split at e
 .rename_i hs;cases e;rw[bq]at hs;obtain⟨⟨as,j⟩,k,r⟩:=Rep.reads I dx 40 hs.1 g c;obtain⟨⟨bs,l⟩,m,t⟩:=Rep.reads I dy 40 hs.2 h f;exact SeqAt.compareNe_reads j l k m (by omega) ⟨.bl _,H,I,rfl,q _ H (Same.refl H) rfl⟩
 .cases e
theorem zlf (h:OpR X (eh a) r)(f:∀i j b H Q,cmpD a (.int i) (.int j)=.ok b->Q (.bl b) H->r (.int i) (.int j) H Q)
  (hm:∀dx dy b,cmpD a dx dy=.ok b->∃i j,dx=.int i/\dy=.int j):oR X (eh a) (mB (cmpD a)):=by
 refine OpR.imp h λx y H Q h=>?_;obtain⟨l,m,dx,dy,d,g,k,e,q⟩:=h;obtain⟨b,c,rfl⟩:=xS e;obtain⟨i,j,rfl,rfl⟩:=hm dx dy b c;subst g k;exact f i j b H Q c (q _ H (Same.refl H) rfl)
theorem C3:oR X (eh .Lt) (mB (cmpD .Lt)):=zlf CD (λi j b H Q e q=>by cases e;exact Pl q) λa c b e=>by cases a<;>first|exact(fE e).elim|(cases c<;>first|exact⟨_,_,rfl,rfl⟩|exact(fE e).elim)
theorem C4:oR X (eh .Gt) (mB (cmpD .Gt)):=zlf CF (λi j b H Q e q=>by cases e;exact Pm q) λa c b e=>by cases a<;>first|exact(fE e).elim|(cases c<;>first|exact⟨_,_,rfl,rfl⟩|exact(fE e).elim)
theorem C5:oR X (eh .GtE) (mB (cmpD .GtE)):=zlf Oc (λi j b H Q e q=>by cases e;exact⟨i,j,rfl,rfl,q⟩) λa c b e=>by cases a<;>first|exact(fE e).elim|(cases c<;>first|exact⟨_,_,rfl,rfl⟩|exact(fE e).elim)
theorem REs.val {K:Z5}(k:Key):∀{kvs:List (Key×V)} {es:bA},REs K H B kvs es->match cU es (kD k)with|some d=>∃v,cJ kvs k=Z9 v/\Rep K H B v d|none=>cJ kvs k=Z8
 |kvs,[],r=>by have e:=r;subst e;exact rfl
 |kvs,(kd,d)::es,r=>by
  obtain⟨a,v,t,e,c,ok,h,q⟩:=r;subst e c;by_cases z:a=k
  .subst z
   have b:cU ((kD a,d)::es) (kD a)=Z9 d:=by
    have:eqK (kD a) (kD a)=true:=by cases a<;>simp[kD,eqK]
    unfold cU;rw[lq (by exact this)];rfl
   rw[b];exact⟨v,zP rfl,h⟩
  .have f:eqK (kD a) (kD k)=false:=by
    rw[oy];intro w;apply z;cases a<;>cases k<;>simp[kD,eqK]at w<;>rw[w]
   have b:cU ((kD a,d)::es) (kD k)=cU es (kD k):=by unfold cU;rw[lr (f▸gc)]
   rw[b,zQ z];exact REs.val k q
theorem xT {K:Z5}(h:jL d=Z7)(r:Rep K H B v d):∃k,d=kD k/\v=kV k/\keyOk k:=by
 cases d<;>try (cases h;done)
 case int i=>exact⟨.inl i,rfl,r,True.intro⟩
 case str x=>exact⟨.inr x,rfl,r.1,r.2⟩
theorem zjg (hu:X.A.units+64<cLine)(ng:Bool)(I:Inv X h B H s)(m:RelV x v)(n:RelV y u)
  (o:Rep X.K H L x dx) (p:Rep X.K H M y dy) (e:inD dx dy=.ok b) (q:Q (.bl (if ng then !b else b)) H):
  wpAny (model X.prog X.w) X.A (eh (if ng then .NotIn else .In) v u) (EP X h B Q) X.xe s:=by
 cases dy<;>try (cases e;done)
 case list xs=>
  change(if(aG 40 dx&&dM 40 xs)=Z7 then Res.ok (xs.any λy=>cc y dx)else .no)=_ at e;split at e
  .rename_i hs;cases e;rw[bq]at hs;obtain⟨⟨as,i⟩,j,C⟩:=Rep.reads I dx 40 hs.1 o m;obtain⟨⟨bs,l⟩,r,D⟩:=Rep.reads I (.list xs) 41 hs.2 p n;have c:PyData.canLayAll0 xs=true:=by simpa only[ZY]using r
   cases ng
   .exact SeqAt.in_list_reads l i c j (by omega) ⟨.bl _,H,I,rfl,q⟩
   .exact SeqAt.notIn_list_reads l i c j (by omega) ⟨.bl _,H,I,rfl,q⟩
  .cases e
 case tuple xs=>
  change(if(aG 40 dx&&dM 40 xs)=Z7 then Res.ok (xs.any λy=>cc y dx)else .no)=_ at e;split at e
  .rename_i hs;cases e;rw[bq]at hs;obtain⟨⟨as,i⟩,j,C⟩:=Rep.reads I dx 40 hs.1 o m;obtain⟨⟨bs,l⟩,r,D⟩:=Rep.reads I (.tuple xs) 41 hs.2 p n;have c:PyData.canLayAll0 xs=true:=by simpa only[ZY]using r
   cases ng
   .exact SeqAt.in_tuple_reads l i c j (by omega) ⟨.bl _,H,I,rfl,q⟩
   .exact SeqAt.notIn_tuple_reads l i c j (by omega) ⟨.bl _,H,I,rfl,q⟩
  .cases e
 case dict es=>
  change(if jL dx=Z7 then Res.ok (cU es dx).isSome else .no)=_ at e;split at e
  .rename_i E;cases e;obtain⟨k,rfl,rfl,_⟩:=xT E o;obtain⟨a,kvs,rfl,F,_,G⟩:=p;cases n;have f:=G.val k;have g:DGet H a (kV k) (cJ kvs k):=DGet.k F
   have z:(cJ kvs k).isSome=(cU es (kD k)).isSome:=by
    cases e:cU es (kD k)with
    |none=>rw[e]at f;rw[show cJ kvs k=Z8 from f];rfl
    |some d=>rw[e]at f;obtain⟨v,f,_⟩:=f;rw[f];rfl
   cases ng
   .exact d_in (by omega) I g m λJ t=>⟨.bl _,H,t,rfl,by rw[z];exact q⟩
   .exact zn2 (by omega) I g m λJ t=>⟨.bl _,H,t,rfl,by rw[z];exact q⟩
  .cases e
theorem C6 (hu:X.A.units+64<cLine):oR X (eh .In) (mB (cmpD .In)):=by
 rintro a s j H x y v u Q I c f ⟨k,l,dx,dy,d,g,h,e,q⟩
 obtain⟨b,i,rfl⟩:=xS e;exact zjg hu Z6 I c f g h i (q _ H (Same.refl H) rfl)
theorem PH (hu:X.A.units+64<cLine):oR X (eh .NotIn) (mB (cmpD .NotIn)):=by
 rintro a s l H x y v u Q I c f ⟨m,n,dx,dy,d,g,h,e,q⟩
 obtain⟨b,i,rfl⟩:=xS e;obtain⟨o,j,k⟩:=Res.aB i;cases k;exact zjg hu Z7 I c f g h j (q _ H (Same.refl H) rfl)
theorem C7 (hu:X.A.units+64<cLine)(op:CmpOp)(h:z57 op=Z7):oR X (eh op) (mB (cmpD op)):=by
 cases op<;>try (cases h;done)
 .exact CZ hu
 .exact C0 hu
 .exact C3
 .exact C4
 .exact C5
 .exact C6 hu
 .exact PH hu
end
section
variable {X:Cx}{a b c e:Expr}{es:List Expr}{fa fb fc:Rho->Res GD}{pos:Pos}
theorem z9 (h:PE X e (tC v))(r:∀H B,Rep X.K H B v d):PE X e (tD X.K λ_=>.ok (.fr,d)):=PE.imp h λa H Q ⟨b,F,x,so,e,q⟩=>by cases e;exact q v H (Same.refl H) (r H _)
theorem PJ {i:Nat}(hN:X.N[i]?=Z9 x)(c:Vis X.env.scope x)(hd:YC x)(a:(x==("__classdict__":Str))=Z6):PE X (.Name x pos) (tD X.K λb=>zY b[i]?):=PE.imp (nW hN c hd a) λg H Q ⟨b,F,x,so,e,q⟩=>by obtain⟨v,d,f⟩:=so.rd e;exact⟨v,d,q v H (Same.refl H) f⟩
theorem Ik {K:Z5}(r:Rep K H' B v d)(h:∀a,B a->BG F H g a)(n:∀b,d=.list b->imms b=Z7->Rep K H' (nw H) v d):Rep K H' (BG F H (gN d g)) v d:=by
 cases d with
 |list b=>
  show Rep K H' (BG F H (if imms b=Z7 then .fr else g)) v _;split
  .rename_i c;exact n b rfl c
  .exact r.weak h
 |_=>exact pX r h
theorem PL (k:z5 i=Z7)(l:PE X a (tD X.K fa))(m:PE X b (tD X.K fb)):PE X (.BinOp a i b pos) (tD X.K λc=>fa c>>=λx=>fb c>>=λy=>cE i x.2 y.2>>=λd=>.ok (gN d (cC [x,y]),d)):=
 PE.imp (B7 (Ij i k) l m) λE H Q ⟨c,F,z,so,e,q⟩=>by
  obtain⟨x,n,e⟩:=Res.aB e;obtain⟨y,o,e⟩:=Res.aB e;obtain⟨d,p,e⟩:=Res.aB e;cases e;refine⟨c,F,x,so,n,λv G f r=>⟨c,F,y,so.same f,o,λu I g s=>⟨_,_,x.2,y.2,d,r.same g λ_ z=>z,s,p,λw t A j B=>q w t ((f.trans g).trans A) (Ik j (λa h=>?_) λC z D=>(B C z D).weak λ_ z=>nw.back (f.trans g) z)⟩⟩⟩;rcases h with h|h|h
  .exact CW so.aK (f.trans g) h
  .exact uV so.aK (by simp) h
  .exact uV so.aK (by simp) (h.back f)
theorem Il (h:tD X.K (λa=>fa a>>=λx=>fb a>>=λy=>cmpD f x.2 y.2>>=λb=>.ok (.fr,.bool b)) j H Q):gK (uW X.K (mB (cmpD f))) (tD X.K fa) (tD X.K fb) j H Q:=by obtain⟨a,F,z,so,e,q⟩:=h;obtain⟨x,k,e⟩:=Res.aB e;obtain⟨y,l,e⟩:=Res.aB e;obtain⟨d,m,e⟩:=Res.aB e;cases e;exact⟨a,F,x,so,k,λv s g n=>⟨a,F,y,so.same g,l,λu t i o=>⟨_,_,x.2,y.2,.bool d,n.same i λ_ z=>z,o,by show(cmpD f x.2 y.2>>=λb=>Res.ok (ZX b))=_;rw[m];rfl,λw p r c=>q w p ((g.trans i).trans r) c⟩⟩⟩
theorem zxv (hu:X.A.units+64<cLine)(d:z57 op=Z7)(hm:fj op b=Z6)(e:PE X a (tD X.K fa))(f:PE X b (tD X.K fb)):
  PE X (.Compare a [op] [b] pos) (tD X.K λc=>fa c>>=λx=>fb c>>=λy=>cmpD op x.2 y.2>>=λb=>.ok (.fr,.bool b)):=
 PE.imp (Hq (C7 hu op d) e f hm) λg H Q h=>Il h
theorem PM (i:∀a H Q,tD X.K f a H Q->t a H Q)(j:∀b x,f b=.ok x->∃c,x.2=.bool c)(a:L2.St)(H:Hp)(Q:Bool->Hp->Prop)(h:dS X.K (λb=>f b>>=λx=>iS x.2) a H Q):qY t a H Q:=by obtain⟨b,F,c,so,e,q⟩:=h;obtain⟨x,d,e⟩:=Res.aB e;obtain⟨k,g⟩:=j b x d;rw[g]at e;cases e;refine i a H _ ⟨b,F,x,so,d,λv l s r=>?_⟩;rw[g]at r;exact⟨k,r,q l s⟩
theorem PN (e:(fa ρ>>=λx=>fb ρ>>=λy=>cmpD op x.2 y.2>>=λb=>Res.ok ((.fr,.bool b):GD))=.ok x):∃c,x.2=.bool c:=by obtain⟨x,e1,e⟩:=Res.aB e;obtain⟨y,e2,e⟩:=Res.aB e;obtain⟨d,e3,e⟩:=Res.aB e;cases e;exact⟨d,rfl⟩
theorem zvs (hu:X.A.units+64<cLine)(d:z57 op=Z7)(hm:fj op b=Z6)(f:PE X a (tD X.K fa))(g:PE X b (tD X.K fb)):
  PT X (.Compare a [op] [b] pos) (dS X.K λc=>(fa c>>=λx=>fb c>>=λy=>cmpD op x.2 y.2>>=λb=>Res.ok ((.fr,.bool b):GD))>>=λx=>iS x.2):=
 PT.imp (B9 (C7 hu op d) f g hm) (PM (λi H Q h=>Il h) λc x e=>PN e)
def C8 (fa fb:Rho->Res GD):Rho->Res GD:=λρ=>fa ρ>>=λx=>match x.2 with|.bool c=>if c then fb ρ else .ok (.fr,.bool Z6)|_=>.no
def PQ (fa fb:Rho->Res GD):Rho->Res GD:=λρ=>fa ρ>>=λx=>match x.2 with|.bool c=>if c then .ok (.fr,.bool Z7)else fb ρ|_=>.no
theorem Ab (c:Same H g)(so:StOk X.K F H h d)(e:f d=.ok x)(q:∀v a,Same H a->Rep X.K a (BG F H x.1) v x.2->Q v a):tD X.K f h g Q:=⟨d,F,x,so.same c,e,λv a s r=>q v a (c.trans s) (r.weak λ_ b=>b.back c)⟩
theorem Im {rest:List Expr}(h:PE X a (tD X.K fa))(i:PE X (.BoolOp .And (b::rest) pos) (tD X.K fb)):PE X (.BoolOp .And (a::b::rest) pos) (tD X.K (C8 fa fb)):=
 PE.imp (NT h i) λn H Q ⟨j,F,z,so,e,q⟩=>by
  obtain⟨x,k,e⟩:=Res.aB e;refine⟨j,F,x,so,k,λv l f m=>?_⟩;obtain⟨g,d⟩:=x;cases d<;>try (cases e;done)
  rename_i c;refine⟨c,m,?_⟩;cases c with
  |true=>exact jJ (Ab f so e q)
  |false=>cases e;exact jI (q _ l f rfl)
theorem xU {rest:List Expr}(h:PE X a (tD X.K fa))(i:PE X (.BoolOp .Or (b::rest) pos) (tD X.K fb)):PE X (.BoolOp .Or (a::b::rest) pos) (tD X.K (PQ fa fb)):=
 PE.imp (NU h i) λn H Q ⟨j,F,z,so,e,q⟩=>by
  obtain⟨x,k,e⟩:=Res.aB e;refine⟨j,F,x,so,k,λv l f m=>?_⟩;obtain⟨g,d⟩:=x;cases d<;>try (cases e;done)
  rename_i c;refine⟨c,m,?_⟩;cases c with
  |false=>exact jI (Ab f so e q)
  |true=>cases e;exact jJ (q _ l f rfl)
theorem Io {K:Z5}(r:Rep K H B v d)(e:iS d=.ok k):lN K v H k:=by
 cases d with
 |none=>cases e;have c:v=.bG:=r;subst c;exact rfl
 |bool b=>cases e;have c:v=.bl b:=r;subst c;exact rfl
 |int b=>cases e;have c:v=.int b:=r;subst c;show(!decide (b=0))=(b != 0);rw[bne,l9]
 |str b=>
  have c:=r.1;subst c;simp only[iS]at e;split at e
  .rename_i j;cases e;refine⟨jT j,?_⟩;rw[bne,l9]
   congr 1
   rw[decide_eq_decide];omega
  .cases e
 |tuple g=>cases e;obtain⟨a,f,c,h,q⟩:=r;subst c;refine .inr (.inl ⟨f,h,?_⟩);show(!g.isEmpty)=!f.isEmpty;have:=q.length;cases f<;>cases g<;>simp at this ⊢
 |list g=>cases e;obtain⟨a,f,c,h,q⟩:=kQ r;subst c;refine .inl ⟨f,h,?_⟩;show(!g.isEmpty)=!f.isEmpty;have:=q.length;cases f<;>cases g<;>simp at this ⊢
 |dict es=>
  cases e;obtain⟨a,kvs,c,h,_,q⟩:=r;subst c;refine .inr (.inr ⟨kvs,h,?_⟩);cases es with
  |nil=>have i:kvs=[]:=q;subst i;rfl
  |cons l m=>obtain⟨k,v,t,i,_⟩:=q;subst i;rfl
theorem PR (m:PE X a (tD X.K fa)):PE X (.UnaryOp .Not a pos) (tD X.K λh=>fa h>>=λx=>iS x.2>>=λc=>.ok (.fr,.bool (!c))):=by
 rintro d s l H Q I ⟨h,F,z,so,e,q⟩
 obtain⟨x,n,e⟩:=Res.aB e;obtain⟨k,o,e⟩:=Res.aB e;cases e;refine UnaryOp_ (aN (m d s l H (λv f=>Same H f/\Rep X.K f (BG F H x.1) v x.2) I ⟨h,F,x,so,n,λv f i j=>⟨i,j⟩⟩) λv i p=>?_);obtain⟨y,f,r,t,u,j⟩:=p;exact not_of (aN (Hs d i l f y v (λb g=>b=k/\g=f) r t ⟨k,Io j o,rfl,rfl⟩) λb w ⟨g,A,B,C⟩=>by subst B C;exact⟨.bl _,g,A,rfl,q _ g u rfl⟩)
theorem PU (c:PE X e (tD X.K fa))(d:∀a,vp e X.env a=(do let v <-a;standAt e.pos;holding [v] (truthy v))):PT X e (dS X.K λb=>fa b>>=λx=>iS x.2):=PT.imp (z9j c d) λj H Q ⟨b,F,k,so,e,q⟩=>by obtain⟨x,f,e⟩:=Res.aB e;exact⟨b,F,x,so,f,λv g h i=>⟨k,Io i e,q g h⟩⟩
section
variable {ta tb:Rho->Res Bool}{rest:List Expr}
theorem Ip (b:Same H H1)(so:StOk X.K F H σ ρ)(e:f ρ=.ok x)(q:∀a,Same H a->Q x a):dS X.K f σ H1 Q:=⟨ρ,F,x,so.same b,e,λa s=>q a (b.trans s)⟩
theorem w_and (f:PT X a (dS X.K g))(h:PW X (.BoolOp .And (b::rest) pos) (dS X.K i)):PW X (.BoolOp .And (a::b::rest) pos) (dS X.K λd=>g d>>=λc=>if c then i d else .ok Z6):=
 PW.imp (NR f h) λm H Q ⟨d,F,k,so,e,q⟩=>by
  obtain⟨x,j,e⟩:=Res.aB e;refine⟨d,F,x,so,j,λn l=>?_⟩;cases x with
  |true=>exact jJ (Ip l so e q)
  |false=>cases e;simp_all
theorem w_or (f:PT X a (dS X.K g))(h:PW X (.BoolOp .Or (b::rest) pos) (dS X.K i)):PW X (.BoolOp .Or (a::b::rest) pos) (dS X.K λd=>g d>>=λc=>if c then .ok Z7 else i d):=
 PW.imp (BO f h) λm H Q ⟨d,F,k,so,e,q⟩=>by
  obtain⟨x,j,e⟩:=Res.aB e;refine⟨d,F,x,so,j,λn l=>?_⟩;cases x with
  |false=>exact jI (Ip l so e q)
  |true=>cases e;simp_all
theorem Ac (ha:PT X a (dS X.K ta)):PT X (.UnaryOp .Not a pos) (dS X.K λρ=>ta ρ>>=λc=>.ok (!c)):=PT.imp (He ha) λσ H Q ⟨ρ,F,k,so,e,q⟩=>by obtain⟨x,e1,e⟩:=Res.aB e;cases e;exact⟨ρ,F,x,so,e1,λH1 s1=>q H1 s1⟩
theorem PV (hc:PT X c (dS X.K g))(h:PE X a (tD X.K fa))(i:PE X b (tD X.K fb)):PE X (.IfExp c a b pos) (tD X.K λd=>g d>>=λk=>if k then fa d else fb d):=
 PE.imp (NW hc h i) λl H Q ⟨d,F,z,so,e,q⟩=>by
  obtain⟨x,j,e⟩:=Res.aB e;refine⟨d,F,x,so,j,λm f=>?_⟩;cases x with
  |true=>exact jJ (Ab f so e q)
  |false=>exact jI (Ab f so e q)
end
theorem Iq:PA X [] (tDA X.K λ_=>.ok []):=PA.imp iR λa H Q ⟨b,F,z,so,e,q⟩=>by cases e;exact q [] H (Same.refl H) rfl
theorem C9 (hs:isStar e=Z6)(f:PE X e (tD X.K fa))(hr:PA X es (tDA X.K fs)):PA X (e::es) (tDA X.K λa=>fa a>>=λx=>fs a>>=λb=>.ok (x::b)):=PA.imp (cZ f hr hs) λl H Q ⟨a,F,z,so,e,q⟩=>by obtain⟨x,g,e⟩:=Res.aB e;obtain⟨b,h,e⟩:=Res.aB e;cases e;refine⟨a,F,x,so,g,λv m c i=>⟨a,F,b,so.same c,h,λj k d rs=>q _ k (c.trans d) ?_⟩⟩;exact⟨v,j,rfl,i.same d λ_ z=>z,rs.back c⟩
theorem PX {i}(h:PA X es (tDA X.K fs))(j:∀b d,fs b=.ok d->d.length<=bb):PE X (.Tuple es i pos) (tD X.K λb=>fs b>>=λc=>.ok (gJ (.tuple (c.map (·.2))) (cC c),.tuple (c.map (·.2)))):=PE.imp (Ht h) λm H Q ⟨b,F,z,so,e,q⟩=>by obtain⟨c,f,e⟩:=Res.aB e;cases e;refine⟨b,F,c,so,f,λn o k rs=>?_⟩;have r:=rs.jS λx l a h=>uV so.aK l h;refine⟨by rw[r.length,ae];exact j b c f,λp g=>q _ _ (k.trans (Same.upd g)) (pX (z8 g r λ_ z=>z) λ_ z=>z)⟩
theorem PY (h:PA X es (tDA X.K fs))(j:∀b f,fs b=.ok f->f.length<=bb):PE X (.List es pos) (tD X.K λb=>fs b>>=λc=>.ok (cC c,.list (c.map (·.2)))):=PE.imp (Ca h) λl H Q ⟨b,F,z,so,e,q⟩=>by obtain⟨c,g,e⟩:=Res.aB e;cases e;refine⟨b,F,c,so,g,λm n i rs=>?_⟩;have r:=rs.jS λx k a h=>uV so.aK k h;refine⟨by rw[r.length,ae];exact j b c g,λp d=>q _ _ (i.trans (Same.upd d)) (oT d r (λ_ z=>z) (CW so.aK i d))⟩
theorem PZ:PE X (.Dict [] [] pos) (tD X.K λ_=>.ok (.fr,.dict [])):=PE.imp HF λb H Q ⟨c,F,z,so,e,q⟩=>by cases e;intro p a;exact q _ _ (Same.upd a) ⟨p,[],rfl,aO,a,rfl⟩
end
theorem P0 {b:Type}(a:List b)(i:Int):L2.cT a i=Mi.cT a i:=rfl
theorem P4 (n d:Nat)(o:Option Int):HT.aX n d o=Mi.aX n d o:=by cases o<;>rfl
theorem Reps.cut {K:Z5}(a b:Option Int)(r:Reps K H B c d):Reps K H B (Mi.cut c a b) (Mi.cut d a b):=by unfold Mi.cut;rw[r.length];exact(r.drop _).take _
theorem Reps.cT {K:Z5}(r:Reps K H B c b)(e:Mi.cT b i=Z9 d):∃v,L2.cT c i=Z9 v/\Rep K H B v d:=by
 unfold Mi.cT at e;cases a:Mi.iB b.length i with
 |none=>rw[a]at e;cases e
 |some j=>rw[a]at e;obtain⟨v,f,g⟩:=r.get e;refine⟨v,?_,g⟩;rw[P0];unfold Mi.cT;rw[r.length,a];exact f
section
variable {X:Cx}{a b c e:Expr}{es:List Expr}{fa fb fc:Rho->Res GD}{pos:Pos}
theorem P5 (hu:X.A.units+64<cLine):kL X (λx y H Q=>∃a v,x=.ref a/\DGet H a y (Z9 v)/\Q v H):=by intro b c e s k H x y v u Q I f i h hs;obtain⟨a,z,rfl,g,q⟩:=h;cases f;exact tail_any (HC I g) PySem.F.slot_dict_getitem.lookup (z6x (by omega) I g i λl m j d=>⟨z,H,j,d,q⟩) hs
def lY (K:Z5):R2:=λx y H Q=>∃B B' dx dy d,Rep K H B x dx/\Rep K H B' y dy/\ixD dx dy=.ok d/\∀w,Rep K H B w d->Q w H
theorem Ir (hu:X.A.units+64<cLine):kL X (lY X.K):=by
 intro f g l s G H x y v u Q I J L h hs;refine(Pe.or (P5 hu)) f g l s G H x y v u Q I J L ?_ hs;obtain⟨B,R,dx,dy,d,m,r,e,q⟩:=h;cases dx<;>try (cases e;done)
 case list xs=>
  cases dy<;>try (cases e;done)
  rename_i i;subst r;obtain⟨a,t,rfl,n,C⟩:=kQ m;change Res.eR (Mi.cT xs i)=_ at e;cases b:Mi.cT xs i with
  |none=>rw[b]at e;cases e
  |some D=>rw[b]at e;cases e;obtain⟨w,o,p⟩:=C.cT b;exact .inl (.inl ⟨a,t,i,w,rfl,rfl,n,o,q w p⟩)
 case tuple xs=>
  cases dy<;>try (cases e;done)
  rename_i i;subst r;obtain⟨a,t,rfl,n,C⟩:=m;change Res.eR (Mi.cT xs i)=_ at e;cases b:Mi.cT xs i with
  |none=>rw[b]at e;cases e
  |some D=>rw[b]at e;cases e;obtain⟨w,o,p⟩:=C.cT b;exact .inl (.inr (.inl ⟨a,t,i,w,rfl,rfl,n,o,q w p⟩))
 case str z=>
  cases dy<;>try (cases e;done)
  rename_i i;have M:=m.1;subst M r;change(if z.length<=aQ then Res.eR ((Mi.cT z.cps.toList i).map λc=>Z1 ⟨#[c]⟩)else .no)=_ at e;split at e
  .rename_i N;cases b:Mi.cT z.cps.toList i with
   |none=>rw[b]at e;cases e
   |some c=>
    rw[b]at e;cases e
    have hc:c∈z.cps.toList:=by
     unfold Mi.cT at b;cases E:Mi.iB z.cps.toList.length i with
     |none=>rw[E]at b;cases b
     |some j=>rw[E]at b;exact bn b
    exact .inl (.inr (.inr ⟨z,i,c,rfl,rfl,jT N,b,q _ ⟨rfl,Pt m.2 hc⟩⟩))
  .cases e
 case dict es=>
  change(if jL _=Z7 then Res.eR (cU es _)else Res.no)=_ at e;split at e
  .rename_i O;obtain⟨k,rfl,rfl,_⟩:=xT O r;obtain⟨a,kvs,rfl,n,_,P⟩:=m;have F:=P.val k;cases b:cU es (kD k)with
   |none=>rw[b]at e;cases e
   |some D=>rw[b]at e F;cases e;obtain⟨w,o,p⟩:=F;exact .inr ⟨a,w,rfl,by rw[<-o];exact DGet.k n,q w p⟩
  .cases e
theorem C' (h:z2n i=Z7):HP i:=λo v=>by cases i<;>first|rfl|cases h
theorem d_ix (hu:X.A.units+64<cLine)(hs:z2n i=Z7)(h:PE X a (tD X.K fa))(j:PE X i (tD X.K k)):
  PE X (.Subscript a i pos) (tD X.K λb=>fa b>>=λx=>k b>>=λy=>ixD x.2 y.2>>=λd=>.ok (gJ d x.1,d)):=
 PE.imp (Ci (Ir hu) h j (C' hs)) λs H Q ⟨b,F,z,so,e,q⟩=>by obtain⟨x,l,e⟩:=Res.aB e;obtain⟨y,m,e⟩:=Res.aB e;obtain⟨d,n,e⟩:=Res.aB e;cases e;exact⟨b,F,x,so,l,λv t f o=>⟨b,F,y,so.same f,m,λu p g r=>⟨_,_,x.2,y.2,d,o.same g λ_ z=>z,r,n,λw c=>q w p (f.trans g) (pX c λ_ z=>z)⟩⟩⟩
theorem P6 (h:Z2 z=Z7)(a b:Option Int):Z2 (rQ z a b)=true:=
 z7.mpr λc hc=>z7.mp h c (by
  have:c∈Mi.cut z.cps.toList a b:=by simpa[rQ]using hc
  exact List.mem_of_mem_drop (mj this))
theorem Iu (a b:Option Int)(n:Nat):ip a b 1 n=sliceRange ((Mi.aX n 0 a:Nat):Int) ((Mi.aX n n b:Nat):Int) 1:=by
 delta ip
 simp
 congr 1
 .cases a with
  |none=>rfl
  |some v=>
   simp only[Mi.aX];by_cases h:v<0
   .simp only[xh h];omega
   .simp only[xk h];omega
 .cases b with
  |none=>rfl
  |some v=>
   simp only[Mi.aX];by_cases h:v<0
   .simp only[xh h];omega
   .simp only[xk h];omega
theorem P7 (n d:Nat)(hd:d<=n)(o:Option Int):Mi.aX n d o<=n:=by rw[<-P4];exact HT.rJ n d hd o
theorem P8 (z:Str)(a b:Option Int):Txt.slice z a b=rQ z a b:=by
 have hn:z.cps.toList.length=z.length:=by simp[Str.length]
 have e:(ip a b 1 z.length).filterMap (z.cps[·]?)=Mi.cut z.cps.toList a b:=by rw[Iu,ri,pick_run];unfold Mi.cut;rw[hn]
 have f:(ip a b 1 z.length).length=Mi.aX z.length z.length b-Mi.aX z.length 0 a:=by rw[Iu,ri,ae,List.length_range]
 unfold Txt.slice;split
 .rename_i hc;simp at hc;have g:=P7 z.length z.length (af _) b
  have c:Mi.cut z.cps.toList a b=z.cps.toList:=by
   unfold Mi.cut;rw[hn];by_cases h0:Mi.aX z.length 0 a=0
   .rw[h0,List.drop_zero,gn (by grind)]
   .have d:z.length=0:=by omega
    have:z.cps.toList=[]:=jc.mp (hn▸d);rw[this];simp
  unfold rQ;rw[c]
 .unfold rQ;rw[<-e]
def Dc (K:Z5):V->Option Int->Option Int->Hp->VK->Prop:=λx lo hi H Q=>∃B dx d,Rep K H B x dx/\pT dx lo hi=.ok d/\∀w H',Same H H'->Rep K H' (λa=>nw H a\/B a) w d->(∀ds,d=.list ds->imms ds=Z7->Rep K H' (nw H) w d)->Q w H'
theorem P9:mY X (Dc X.K):=by
 intro g s n H x v o t b c sl Q I u hs pl pu h;refine(Pf.or OG) g s n H x v o t b c sl Q I u hs pl pu ?_;obtain⟨B,w,d,r,e,q⟩:=h;cases w<;>try (cases e;done)
 case list xs=>cases e;obtain⟨a,j,rfl,k,i⟩:=kQ r;refine .inl (.inl ⟨a,j,rfl,k,λp f=>?_⟩);exact q _ _ (Same.upd f) (oT f (i.cut b c) (λ_ z=>.inr z) (.inl f)) λm z l=>by cases z;exact oT f (Reps.aT _ l (i.cut b c)) (λ_ z=>z) f
 case tuple xs=>
  change(if aX xs.length 0 b=0/\aX xs.length xs.length c=xs.length then Res.no else Res.ok (PyData.tuple (cut xs b c)))=_ at e;split at e
  .cases e
  .rename_i y;cases e;obtain⟨a,j,rfl,k,i⟩:=r;refine .inr ⟨a,j,rfl,k,by rw[i.length];exact y,λp f=>?_⟩;exact q _ _ (Same.upd f) (z8 f (i.cut b c) λ_ z=>.inr z) λm z=>by cases z
 case str z=>
  change(if z.length<=aQ then Res.ok (Z1 (rQ z b c))else .no)=_ at e;split at e
  .rename_i hl;cases e;have A:=r.1;subst A;refine .inl (.inr ⟨z,rfl,jT hl,?_⟩);rw[P8];exact q _ H (Same.refl H) ⟨rfl,P6 r.2 b c⟩ λm z=>by cases z
  .cases e
theorem xV:PO X Z8 (tDO X.K λ_=>.ok Z8):=PO.imp OC λa H Q ⟨b,F,z,so,e,q⟩=>by cases e;exact q H (Same.refl H)
theorem P' (c:PE X a (tD X.K fa)):PO X (Z9 a) (tDO X.K λb=>fa b>>=λx=>rR x.2):=
 PO.imp (OD c) λk H Q ⟨b,F,z,so,e,q⟩=>by
  obtain⟨x,f,e⟩:=Res.aB e;refine⟨b,F,x,so,f,λv h i j=>?_⟩;obtain⟨g,d⟩:=x;cases d<;>try (cases e;done)
  cases e;exact⟨_,j,q h i⟩
theorem d_sl {k:Option Expr}(m:PE X a (tD X.K fa))(n:PO X k (tDO X.K fl))(hh:PO X i (tDO X.K o)):
  PE X (.Subscript a (.Slice k i Z8 p2) pos) (tD X.K λb=>fa b>>=λx=>fl b>>=λl=>o b>>=λh=>pT x.2 l h>>=λd=>.ok (gN d (cC [x]),d)):=
 PE.imp (OF P9 m n hh) λD H Q ⟨b,F,z,so,e,q⟩=>by
  obtain⟨x,p,e⟩:=Res.aB e;obtain⟨l,r,e⟩:=Res.aB e;obtain⟨h,s,e⟩:=Res.aB e;obtain⟨d,t,e⟩:=Res.aB e;cases e;refine⟨b,F,x,so,p,λv E c u=>⟨b,F,l,so.same c,r,λG f=>⟨b,F,h,so.same (c.trans f),s,λI g=>⟨_,x.2,d,u.same (f.trans g) λ_ z=>z,t,λw y A j B=>q w y ((c.trans (f.trans g)).trans A) (Ik j (λa h=>?_) λC z i=>(B C z i).weak λ_ z=>nw.back (c.trans (f.trans g)) z)⟩⟩⟩⟩;rcases h with h|h
  .exact CW so.aK (c.trans (f.trans g)) h
  .exact uV so.aK (by simp) h
theorem Reps.pick {K:Z5}(r:Reps K H B vs ds):∀is:List Nat,Reps K H B (is.filterMap (vs[·]?)) (is.filterMap (ds[·]?))
 | []=>rfl
 |i::is=>by
  rw[gp,gp];cases h:ds[i]? with
  |some d=>obtain⟨v,h1,h2⟩:=r.get h;rw[h1];exact Reps.cons h2 (Reps.pick r is)
  |none=>
   have:vs[i]?=none:=by rw[ol]at h ⊢;rw[r.length];exact h
   rw[this];exact Reps.pick r is
theorem Vals.pick (r:Vals vs us):∀is:List Nat,Vals (is.filterMap (vs[·]?)) (is.filterMap (us[·]?))
 | []=>.nil
 |i::is=>by
  rw[gp,gp];cases h:vs[i]? with
  |some d=>obtain⟨v,a,b⟩:=r.get h;rw[a];exact .cons b (Vals.pick r is)
  |none=>
   have:us[i]?=none:=by rw[ol]at h ⊢;rw[<-r.length];exact h
   rw[this];exact Vals.pick r is
theorem d_cB {id:String}(hc:CallR X (.builtin id) (zff X.K m))(hm:X.mg x=Z8)(k:df x=Z9 (.builtin id))(l:PA X (e::es) (tDA X.K fs))(b:((e::es).all fun e=>!isStar e)=Z7)(n:Gl X x)(hn:x≠"__name__")(c:YC x):
  PE X (.Call (.Name x p) (e::es) [] pos) (tD X.K λf=>fs f>>=λg=>m (g.map (·.2))>>=λd=>.ok (gJ d .al,d)):=
 PE.imp (uL hc hm k l b n hn c) λu H Q ⟨f,F,z,so,e,q⟩=>by obtain⟨g,o,e⟩:=Res.aB e;obtain⟨d,r,e⟩:=Res.aB e;cases e;exact⟨f,F,g,so,o,λv y j rs=>⟨_,_,d,rs.iU so.aK,r,λw s t i=>q w s (j.trans t) (pX i λa h=>h.elim (λz=>(nw.back j z).aK so.aK) λz=>z)⟩⟩
theorem REs.length {K:Z5}:∀{a:List (Key×V)} {es:bA},REs K H B a es->a.length=es.length
 |a,[],r=>by have e:a=[]:=r;subst e;rfl
 |a,(kd,d)::es,r=>by obtain⟨k,v,t,rfl,_,_,_,q⟩:=r;rw[bz,bz,q.length]
theorem Ae {K:Z5}(r:Reps K H B xs [d]):∃v,xs=[v]/\Rep K H B v d:=by obtain⟨v,t,e,h,q⟩:=r;subst e q;exact⟨v,rfl,h⟩
theorem Dd {K:Z5}(r:Reps K H B xs [d,d']):∃v v',xs=[v,v']/\Rep K H B v d/\Rep K H B v' d':=by obtain⟨v,t,e,h,q⟩:=r;obtain⟨v',e2,h'⟩:=Ae q;subst e e2;exact⟨v,v',rfl,h,h'⟩
theorem Qa:CallR X (.builtin "len") (zff X.K (kN "len")):=by
 refine CallR.imp (Pg.or OZ) λl H Q h=>?_;obtain⟨B,g,d,r,e,q⟩:=h;simp only[kN,if_true]at e;split at e
 .rename_i x;obtain⟨v,rfl,i⟩:=Ae r;clear r;have r:=i;cases x<;>try (cases e;done)
  case str z=>
   change(if z.length<=aQ then Res.ok (ZZ z.length)else .no)=_ at e;split at e
   .rename_i j;cases e;have k:=r.1;subst k;exact .inl (.inl ⟨z,rfl,jT j,q _ H (Same.refl H) rfl⟩)
   .cases e
  case tuple g=>cases e;obtain⟨a,b,rfl,c,f⟩:=r;exact .inl (.inr ⟨a,b,rfl,.inr c,q _ H (Same.refl H) (f.length▸rfl)⟩)
  case list g=>cases e;obtain⟨a,b,rfl,c,f⟩:=kQ r;exact .inl (.inr ⟨a,b,rfl,.inl c,q _ H (Same.refl H) (f.length▸rfl)⟩)
  case dict g=>cases e;obtain⟨a,b,rfl,c,_,f⟩:=r;exact .inr ⟨a,b,rfl,c,q _ H (Same.refl H) (f.length▸rfl)⟩
 .cases e
theorem Qb (hc:X.calm=Z7):CallR X (.builtin "max") (zff X.K (kN "max")):=by
 refine CallR.imp (Of hc) λc H Q h=>?_;obtain⟨B,f,d,r,e,q⟩:=h;simp only[kN,show("max":String)≠"len" by decide,if_true,if_false]at e;split at e
 .rename_i i j;cases e;obtain⟨v,g,rfl,a,b⟩:=Dd r;subst a b;refine⟨i,j,rfl,q _ H (Same.refl H) ?_⟩
  congr 1
  split<;>omega
 .cases e
theorem zh4 (I:Inv X j q H s)(c:RelV x u)(r:Rep X.K H B x d)(l:T∈tysB)
  (h:∀m,Q (.bool (oG (jO d) T)) {s with toks:=m}):wpAny (model X.prog X.w) A (call (.builtin "isinstance") [u,.type T]) Q E s:=by
 have n:jO d∈oE:=by cases d<;>simp[jO,oE]
 have e:=Ph X.K _ n T l;cases d with
 |none=>have f:x=.bG:=r;subst f;exact z2k I c .bG e h
 |bool b=>have f:x=.bl b:=r;subst f;exact z2k I c (.bl b) e h
 |int b=>have f:x=.int b:=r;subst f;exact z2k I c (.int b) e h
 |str b=>have f:x=.str b:=r.1;subst f;exact z2k I c (.str b) e h
 |tuple p=>obtain⟨a,k,rfl,g,_⟩:=r;cases c;obtain⟨_,_,⟨o,i,hc,_⟩,_⟩:=I.tuple g;exact Z3 W.kitx_tuple I.fR ⟨o,i,hc⟩ e (λz=>nomatch z) h
 |list p=>obtain⟨a,k,rfl,g,_⟩:=kQ r;cases c;obtain⟨_,_,⟨o,_,i,hc,_⟩,_⟩:=I.list g;exact Z3 W.kitx_list I.fR ⟨o,i,hc⟩ e (λz=>nomatch z) h
 |dict es=>obtain⟨a,k,rfl,g,_⟩:=r;exact z2k I c (.dK g) e h
def De (K:Z5):List V->Hp->VK->Prop:=λxs H Q=>∃B x d T,xs=[x,.ty T]/\Rep K H B x d/\T∈tysB/\Q (.bl (oG (jO d) T)) H
theorem Qc:CallR X (.builtin "isinstance") (De X.K):=by
 rintro a s h H i j Q I r ⟨B,x,d,T,rfl,b,c,q⟩
 obtain⟨u,e,rfl,f,g⟩:=vals2 r;obtain rfl:e=Value.type T:=g;exact zh4 I f b c λk=>⟨.bl _,H,I.tok _,rfl,q⟩
theorem zuv (hm:X.mg "isinstance"=Z8)(hg:Gl X "isinstance")(hm2:X.mg x2=Z8)(hv2:df x2=Z9 (.type T))(hg2:Gl X x2)(hn2:x2≠"__name__")(hd2:YC x2)(hT:T∈tysB)(hs:isStar y=Z6)(ha:PE X y (tD X.K fa)):
  PE X (.Call (.Name "isinstance" p) [y,.Name x2 p2] [] pos) (tD X.K λρ=>fa ρ>>=λx=>.ok (.fr,.bool ([T].any λT=>oG (jO x.2) T))):=
 PE.imp (uL Qc hm (by decide+kernel) (cZ ha (cZ (NL (v:=.ty T) hg2 hm2 hv2 rfl hn2 hd2) iR) hs) (by simp[hs];rfl) hg dc dc) λσ H Q ⟨ρ,F,z,so,e,q⟩=>by obtain⟨x,e1,e⟩:=Res.aB e;cases e;refine⟨ρ,F,x,so,e1,λv H1 s1 rv=>?_⟩;refine⟨_,v,x.2,T,rfl,rv,hT,q _ H1 s1 ?_⟩;show V.bl _=V.bl _;simp
end
section
variable {X:Cx}{pos:Pos}
end
def Kp (B:Ad->Prop)(H1 H2:Hp):Prop:=∀a o,H1 a=Z9 o->(B (Z9 a)\/Fix o)->H2 a=Z9 o
theorem Kp.of (s:Same b c):Kp B b c:=λa o e _=>s a o e
structure Walk (K:Z5)(J:It)(B:Ad->Prop)(H1:Hp)(xs:List D):Prop where
 len:xs.length<=bb
 go:∀H2,Kp B H1 H2->∀i,i<xs.length->J.go i H2
 stop:∀H2,Kp B H1 H2->J.stop xs.length H2
 fJ:∀H2,Kp B H1 H2->∀i x H3,i<xs.length->J.fJ i H2 x H3->Same H2 H3/\∃d,xs[i]?=Z9 d/\Rep K H3 B x d
def tDW (K:Z5)(f:Rho->Res (G×List D)):TI:=λσ H R=>∃ρ F w,StOk K F H σ ρ/\f ρ=.ok w/\∀J B H',Same H H'->(∀a,B a->BG F H w.1 a/\¬nw H' a)->Walk K J B H' w.2->R J H'
theorem _root_.L2.PI.imp (h:PI X c e t)(i:∀a H Q,d a H Q->t a H Q):PI X c e d:=λb s a H Q I q=>h b s a H Q I (i a H Q q)
section
variable {K:Z5}{H:Hp}{B:Ad->Prop}
theorem Qd (h:(H a=Z9 (.lst c)/\B (Z9 a))\/(FL K H a c/\B Z8))(r:Reps K H B c g)(l:g.length<=bb):Walk K (BY K a) B H g:=by
 have f:∀e,Kp B H e->SqL K e a c:=λe k=>by
  rcases h with⟨h,b⟩|⟨⟨o,h⟩|h,_⟩
  .exact .inl (.inl (k a _ h (.inl b)))
  .exact .inl (.inr ⟨o,k a _ h (.inr True.intro)⟩)
  .exact .inr h
 refine⟨l,λe k i j=>?_,λe k=>⟨c,f e k,by rw[r.length];exact af _⟩,λe k i x q j y=>?_⟩
 .have m:i<c.length:=r.length▸j;exact⟨c,c[i],f e k,by simp[m]⟩
 .obtain⟨rfl,y⟩:=y;obtain⟨d,n,p⟩:=r.eS (y c (f _ k));exact⟨Same.refl _,d,n,Rep.keep k (λ_ z=>z) d p⟩
theorem Qe (h:bF K H a c)(r:Reps K H B c f)(j:f.length<=bb):Walk K (Hk K a) B H f:=by
 have e:∀b,Kp B H b->bF K b a c:=λb k=>h.keep k;refine⟨j,λb k i g=>?_,λb k=>⟨c,e b k,by rw[r.length];exact af _⟩,λb k i x o g y=>?_⟩
 .have l:i<c.length:=r.length▸g;exact⟨c,c[i],e b k,by simp[l]⟩
 .obtain⟨rfl,y⟩:=y;obtain⟨d,m,n⟩:=r.eS (y c (e _ k));exact⟨Same.refl _,d,m,Rep.keep k (λ_ z=>z) d n⟩
theorem Iv {b:Int}(e:n<=bb):Walk K (pQ b n) B H ((d8 n).map λ(i:Nat)=>.int (b+i)):=by
 have c:((d8 n).map λ(i:Nat)=>(ZZ (b+i):D)).length=n:=by simp
 refine⟨by rw[c];exact e,λd k i a=>?_,λd k=>?_,λd k i x f a y=>?_⟩
 .rw[c]at a;exact a
 .show n<=_;rw[c];simp_all
 .obtain⟨rfl,rfl⟩:=y;rw[c]at a;exact⟨Same.refl _,.int (b+i),by rw[ba,sw a];rfl,rfl⟩
end
section
variable {X:Cx}{tg a b c e:Expr}{es:List Expr}{fa fb fc:Rho->Res GD}{pos:Pos}
theorem z3d (c:Inv X i u g f)(r:RelV y v)(s:Rep X.K g B y d)(e:z5a d=.ok x)
  (q:∀J,Walk X.K J B g x->R J g):wpAny (model X.prog X.w) X.A (qx v) (uG X i u tg R) X.xe f:=by
 cases d<;>try (cases e;done)
 case list ds=>
  cases e;obtain⟨a,t,rfl,h,rs⟩:=s
  have j:SqL X.K g a t:=by
   rcases h with⟨h,_⟩|⟨h|h,_⟩
   .exact .inl (.inl h)
   .exact .inl (.inr h)
   .exact .inr h
  cases r;obtain⟨k,l,p,m⟩:=c.list j;refine jp p.isList (⟨f.heap.objs.size,[f.heap.objs.size],_,_,g,rfl,c.kept λb o e=>ah _ e,Hl a _,⟨_,ax _ rfl,rfl,rfl⟩,λb n=>?_,q _ (Qd h rs (rs.length▸m))⟩);have e:b=f.heap.objs.size:=by simpa using n
  subst e;exact c.eN (af _) (c.hok.fresh (af _))
 case tuple ds=>
  cases e;obtain⟨a,t,rfl,j,rs⟩:=s;cases r;obtain⟨k,l,p,m⟩:=c.tuple j;refine ug p (⟨f.heap.objs.size,[f.heap.objs.size],_,_,g,rfl,c.kept λb o e=>ah _ e,N1 a _,⟨_,ax _ rfl,rfl,rfl⟩,λb n=>?_,q _ (Qe j rs (rs.length▸m))⟩);have e:b=f.heap.objs.size:=by simpa using n
  subst e;exact c.eN (af _) (c.hok.fresh (af _))
theorem bI (i:PE X a (tD X.K fa)):PI X tg a (tDW X.K λρ=>fa ρ>>=λx=>z5a x.2>>=λg=>.ok (x.1,g)):=by
 rintro b s j H R I ⟨ρ,F,w,so,e,q⟩
 obtain⟨x,k,e⟩:=Res.aB e;obtain⟨g,l,e⟩:=Res.aB e;cases e;refine aN (i b s j H (λv c=>Same H c/\Rep X.K c (BG F H x.1) v x.2) I ⟨ρ,F,x,so,k,λv c h d=>⟨h,d⟩⟩) λv h m=>?_;obtain⟨y,c,n,o,f,d⟩:=m;exact z3d n o (Rep.there _ d) l λJ p=>q J _ c f (λ_ z=>z) p
theorem Df {n:Int}(a:n<=aQ)(b:-aQ<=n):-(2 ^ 62)<=n/\n<2 ^ 62:=by unfold aQ at *;omega
theorem dH.one {K:Z5}(r:dH K F H H' vs [x]):∃v,vs=[v]/\Rep K H' (BG F H x.1) v x.2:=by obtain⟨v,t,e,h,q⟩:=r;subst e q;exact⟨v,rfl,h⟩
theorem dH.two {K:Z5}(r:dH K F H H' vs [x,y]):∃v w,vs=[v,w]/\Rep K H' (BG F H x.1) v x.2/\Rep K H' (BG F H y.1) w y.2:=by obtain⟨v,t,e,h,q⟩:=r;obtain⟨w,a,b⟩:=q.one;subst e a;exact⟨v,w,rfl,h,b⟩
theorem Qf (hm:X.mg "range"=Z8)(l:Gl X "range")(hs:isStar a=Z6)(m:PA X [a] (tDA X.K fs))(o:∀c b,fs c=.ok b->b.length=1):PI X y (.Call (.Name "range" p) [a] [] pos) (tDW X.K λc=>fs c>>=λb=>fX (b.map (·.2))>>=λj=>.ok (.fr,j)):=
 PI.imp (Ho l hm m (dW hs)) λA H R ⟨c,F,w,so,e,q⟩=>by
  obtain⟨b,k,e⟩:=Res.aB e;obtain⟨j,f,e⟩:=Res.aB e;cases e;refine⟨c,F,b,so,k,λB r s rs=>?_⟩
  match b,(o c b k)with
  | [(g,d)],t=>
   obtain⟨v,rfl,u⟩:=rs.one;cases d<;>try (cases f;done)
   rename_i n;subst u;change(if n<=aQ/\-aQ<=n then Res.ok ((d8 n.toNat).map λ(i:Nat)=>ZZ i)else .no)=_ at f;split at f
   case isFalse=>cases f
   rename_i hn;cases f;have h:=Df hn.1 hn.2;refine⟨n,rfl,h.1,h.2,q _ (λ_=>False) r s (λ_ z=>z.elim) ?_⟩;have x:((d8 n.toNat).map λ(i:Nat)=>(ZZ i:D))=(d8 n.toNat).map λi=>.int (0+i):=by apply i9;intro i _;rw[Int.zero_add]
   rw[x];exact Iv (jT (by unfold aQ at *;omega))
theorem Qg (hm:X.mg "range"=Z8)(s:Gl X "range")(hs:isStar a=Z6)(i:isStar b=Z6)(t:PA X [a,b] (tDA X.K fs))(u:∀f c,fs f=.ok c->c.length=2):PI X tg (.Call (.Name "range" p) [a,b] [] pos) (tDW X.K λf=>fs f>>=λc=>fX (c.map (·.2))>>=λk=>.ok (.fr,k)):=
 PI.imp (zds s hm t (by rw[dW hs,dW i];rfl) (dW i)) λD H R ⟨f,F,w,so,e,q⟩=>by
  obtain⟨c,l,e⟩:=Res.aB e;obtain⟨k,h,e⟩:=Res.aB e;cases e;refine⟨f,F,c,so,l,λE x y rs=>?_⟩
  match c,(u f c l)with
  | [(g,d),(G,A)],B=>
   obtain⟨v,I,rfl,C,j⟩:=rs.two;cases d<;>try (cases h;done)
   cases A<;>try (cases h;done)
   rename_i n m;subst C j;simp only[aw,il,fX]at h;split at h
   case isFalse=>cases h
   rename_i hn;cases h;have o:=Df hn.2.2.1 hn.1;have r:=Df hn.2.1 hn.2.2.2;refine⟨n,m,rfl,⟨o.1,o.2,r.1,r.2⟩,q _ (λ_=>False) x y (λ_ z=>z.elim) ?_⟩;refine Iv ?_;rw[bt];unfold aQ at *;omega
def Fm.drop (F:Fm)(i:Nat):Fm:={F with O:=λa=>if F.O a=Z9 i then Z8 else F.O a}
theorem Fm.bL {F:Fm}{a:Addr}(h:F.O a=Z8):(F.drop i).O a=none:=by show(if F.O a=Z9 i then Z8 else F.O a)=Z8;rw[h];rfl
theorem Bin.drop {a:Ad}(h:Bin F a):Bin (F.drop i) a:=by
 cases a with
 |none=>exact h
 |some a=>exact⟨Fm.bL h.1,h.2⟩
theorem Slot.drop {K:Z5}(a:j≠i)(h:Slot K F H j g v d):Slot K (F.drop i) H j g v d:=by
 cases g with
 |fr=>
  obtain⟨p,e,o,h⟩:=h;refine⟨p,e,?_,?_⟩
  .show(if F.O p=Z9 i then Z8 else F.O p)=Z9 j;rw[o,xk (λz=>a (xl z))]
  .rcases h with⟨c,f,k,l,r⟩|⟨c,f,k,l,r⟩
   .exact .inl ⟨c,f,k,l,r.weak λ_ b=>b.drop⟩
   .exact .inr ⟨c,f,k,l,REs.same (λ_ _ e=>e) (λ_ b=>b.drop) r⟩
 |od=>exact h
 |al=>exact h
 |nu=>exact Rep.weak (λ_ b=>b.drop) h
def BI (F:Fm):G->Ad->Prop
 |.od=>fD F
 |.fr=>bM F
 |.al=>bM F
 |.nu=>bM F
theorem BI.of {a:Ad}(b:∀a,H a=Z8->F.V a)(h:BG F H g a):BI F g a:=by
 cases g with
 |fr=>exact nw.aK b h
 |od=>exact h
 |al=>exact h
 |nu=>exact h.elim (nw.aK b) Bin.aK
theorem StOk.lZ {K:Z5}(so:StOk K F H f h)(r:Rep K H (BI F x.1) v x.2):StOk K (F.drop i) H (f.set i (Z9 v)) (h.set i (Z9 (z17 x))) where
 ext:=so.ext
 aK:=so.aK
 own:=λa j e=>by
  have k:F.O a=Z9 j:=by
   have:(if F.O a=Z9 i then Z8 else F.O a)=Z9 j:=e;split at this
   .cases this
   .exact this
  exact so.own a j k
 len:=by rw[cz,cz];exact so.len
 sl:=λj g d e=>by
  by_cases c:i=j
  .subst c;rw[ga]at e;simp only[if_true]at e;split at e
   .rename_i l;have b:z17 x=(g,d):=by simpa using e
    refine⟨v,?_,?_⟩
    .rw[ga];simp[so.len,l]
    .obtain⟨m,dx⟩:=x;cases m with
     |fr=>cases b;exact r
     |od=>cases b;exact r
     |al=>cases b;exact r
     |nu=>cases b;exact r
   .cases e
  .rw[cj c]at e ⊢;obtain⟨u,n,o⟩:=so.sl j g d e;exact⟨u,n,o.drop λz=>c z.symm⟩
structure Keeps (F F':Fm)(is:List Nat)(σ σ':L2.St):Prop where
 h0:F'.H0=F.H0
 v:F'.V=F.V
 z:F'.z=F.z
 o:∀a,F.O a=Z8->F'.O a=Z8
 len:σ'.length=σ.length
 rest:∀j,j∉is->σ'[j]?=σ[j]?
theorem Keeps.refl:Keeps F F is σ σ:=⟨rfl,rfl,rfl,λ_ h=>h,rfl,λ_ _=>rfl⟩
theorem Keeps.set {v:Option V}(h:i∈is):Keeps F (F.drop i) is σ (σ.set i v):=⟨rfl,rfl,rfl,λ_ h=>Fm.bL h,cz,λj a=>cj λz=>a (by rw[<-z];exact h)⟩
theorem Keeps.trans (a:Keeps F F' is σ σ')(b:Keeps F' Qh is σ' Dg):Keeps F Qh is σ Dg:=⟨b.h0.trans a.h0,b.v.trans a.v,b.z.trans a.z,λx h=>b.o x (a.o x h),b.len.trans a.len,λj hj=>(b.rest j hj).trans (a.rest j hj)⟩
def tDG (K:Z5)(t:Tg):TG:=λv σ H Q=>∃ρ F x cF,StOk K F H σ ρ/\Rep K H (BI F x.1) v x.2/\eD t x ρ=.ok cF/\∀σ' F',StOk K F' H σ' cF->Keeps F F' (tgIx t) σ σ'->Q σ' H
theorem _root_.L2.PG.imp (h:PG X e t)(i:∀v σ H Q,t' v σ H Q->t v σ H Q):PG X e t':=λpins s σ H v u Q I r q=>h pins s σ H v u Q I r (i v σ H Q q)
theorem _root_.L2.PGs.imp {e:List Expr}(h:PGs X e t)(i:∀v σ H Q,t' v σ H Q->t v σ H Q):PGs X e t':=λpins s σ H v u Q I r q=>h pins s σ H v u Q I r (i v σ H Q q)
theorem Qi (hN:X.N.Nodup)(a:X.N[i]?=Z9 x)(b:Loc X.env.scope x)(c:Sto X x):PG X (.Name x pos) (tDG X.K (.nm i)):=PG.imp (wQ hN a b c) λv f H Q ⟨g,F,x,d,so,r,e,q⟩=>by cases e;exact q _ _ (so.lZ r) (Keeps.set (by simp[tgIx]))
def mC (K:Z5)(all is:List Nat):uF:=λvs σ H Q=>∃ρ F g ds cF,(∀i∈is,i∈all)/\StOk K F H σ ρ/\Reps K H (BI F g) vs ds/\rP ρ is ds g=Z9 cF/\∀σ' F',StOk K F' H σ' cF->Keeps F F' all σ σ'->Q σ' H
theorem Qj:PGs X [] (mC X.K all []):=
 PGs.imp N0 λf b H Q ⟨h,F,g,a,c,_,so,r,e,q⟩=>by
  cases a with
  |nil=>cases e;exact⟨r,q b F so Keeps.refl⟩
  |cons d a=>cases e
theorem Qk (hN:X.N.Nodup)(c:X.N[i]?=Z9 x)(u:Loc X.env.scope x)(w:Sto X x)(h:PGs X es (mC X.K all is)):PGs X (.Name x p::es) (mC X.K all (i::is)):=
 PGs.imp (zfy (wQ hN c u w) h (by rfl)) λC D H Q ⟨y,F,g,l,m,f,so,r,e,q⟩=>by
  cases l with
  |nil=>cases e
  |cons d l=>
   obtain⟨v,t,rfl,s,z⟩:=r;refine⟨v,t,rfl,y.set i (Z9 (z17 (gJ d g,d))),F.drop i,g,l,m,λj A=>f j (b0 _ A),?_,?_,e,λn B o k=>q n B o ((Keeps.set (f i bj)).trans k)⟩
   .refine so.lZ ?_;unfold gJ;by_cases c:aM d=Z7
    .rw[xh c];exact Rep.aT d c s
    .rw[xk c];exact s
   .exact z.weak λa b=>by cases g<;>exact b
theorem Ql (x:X.calm=Z7)(h:PGs X es (mC X.K is is))(hn:(g7 es X.env).length=n)(p:(g7 es X.env).findIdx? (·.1)=Z8)(y:is.length=n):PG X (.Tuple es k pos) (tDG X.K (.tp is)):=
 λl s z H v u Q I A ⟨f,F,⟨g,d⟩,j,so,r,e,q⟩=>by
  have m:∀is b f c,rP f is b g=Z9 c->is.length=b.length:=by
   intro is
   induction is with
   |nil=>intro b f c h;cases b with
    |nil=>rfl
    |cons _ _=>cases h
   |cons i is B=>intro b f c h;cases b with
    |nil=>cases h
    |cons d b=>rw[bz,bz,B b _ _ h]
  have t:∀b,Res.eR (rP f is b g)=.ok j->rP f is b g=Z9 j:=λb e=>by
   cases o:rP f is b g with
   |none=>rw[o]at e;cases e
   |some c=>rw[o]at e;rw[Res.ok.inj e]
  cases d<;>try (cases e;done)
  case tuple b=>have o:=t b e;obtain⟨a,C,rfl,D,w⟩:=r;exact zpg x h hn p l s z H _ u Q I A ⟨a,C,rfl,D,by rw[w.length,<-m _ _ _ _ o];exact y,f,F,g,b,j,λ_ h=>h,so,w,o,q⟩
theorem StOk.blk {K:Z5}(so:StOk K F H s k)(m:Nat)(js:List Nat)(l:Addr)(u:List V)(c:H l=Z8):
  StOk K {F with V:=λa=>F.V a/\a≠l,O:=λ_=>Z8} (upd H l (.lst u)) (eP m js s) (bc m Z8++js.map λj=>cL (k.getD j Z8)) where
 ext:=λa o e=>by have:=so.ext a o e;rw[aA (bY this c)];exact this
 aK:=λa e=>by
  by_cases h:a=l
  .subst h;rw[aO]at e;cases e
  .rw[aA h]at e;exact⟨so.aK a e,h⟩
 own:=λa i e=>by cases e
 len:=by unfold eP;simp
 sl:=λi g d e=>by
  have n:∀a,bM F a/\¬nw H a->bM {F with V:=λa=>F.V a/\a≠l,O:=λ_=>Z8} a:=λa h=>by
   cases a with
   |none=>exact h.1
   |some a=>exact⟨h.1,λz=>h.2 (z▸c)⟩
  have p:∀a,fD F a/\¬nw H a->fD {F with V:=λa=>F.V a/\a≠l,O:=λ_=>Z8} a:=λa h=>by
   cases a with
   |none=>exact h.1
   |some a=>exact⟨h.1.1,h.1.2,λz=>h.2 (z▸c)⟩
  rw[mo]at e;split at e
  .rw[du]at e;split at e<;>cases e
  .rename_i w;rw[cq]at w e;rw[ba]at e;cases q:js[i-m]? with
   |none=>rw[q]at e;cases e
   |some j=>
    rw[q]at e;have b:cL (k.getD j Z8)=Z9 (g,d):=xl e;cases r:k[j]? with
    |none=>rw[av,r]at b;cases b
    |some o=>
     rw[av,r]at b;cases o with
     |none=>cases b
     |some gd=>
      obtain⟨t,d0⟩:=gd;obtain⟨v,x,f⟩:=so.sl j t d0 r;refine⟨v,?_,?_⟩
      .unfold eP;rw[jv (by grind),cq,ba,q];show Z9 (s.getD j Z8)=_;rw[av,x];rfl
      .cases t with
       |fr=>cases b;exact Rep.same (Same.upd c) n (Rep.there _ (f.rep so.iD))
       |od=>cases b;exact Rep.same (Same.upd c) p (Rep.there _ f)
       |al=>cases b;exact Rep.same (Same.upd c) n (Rep.there _ f)
       |nu=>cases b;exact Rep.same (Same.upd c) n (Rep.there _ (f.rep so.iD))
theorem Dh:∀l m r,hK f (l++m)=.ok r->∃a b,hK f l=.ok a/\hK f m=.ok b/\r=a++b
 | [],m,r,h=>⟨[],r,rfl,h,rfl⟩
 |x::l,m,r,h=>by
  obtain⟨o,c,h⟩:=Res.aB h;obtain⟨d,e,h⟩:=Res.aB h;obtain⟨a,b,g,i,rfl⟩:=Dh l m d e;cases h;refine⟨oc o a,b,?_,i,?_⟩
  .show(f x>>=λo=>hK f l>>=λr=>Res.ok (oc o r))=_;rw[c,Res.aC,g,Res.aC]
  .cases o<;>rfl
theorem dH.snoc {K:Z5}:∀{vs:List V} {xs:List GD} {v:V} {x:GD},dH K F H H' vs xs->Rep K H' (BG F H x.1) v x.2->dH K F H H' (vs++[v]) (xs++[x])
 |vs,[],v,x,r,h=>by have e:vs=[]:=r;subst e;exact⟨v,[],rfl,h,rfl⟩
 |vs,y::ys,v,x,r,h=>by obtain⟨u,t,rfl,h1,q⟩:=r;exact⟨u,t++[v],rfl,h1,q.snoc h⟩
theorem dH.keep {K:Z5}(d:∀a o g,f a=Z9 o->(BG F H g (Z9 a)\/Fix o)->h a=Z9 o):∀{c:List V} {xs:List GD},dH K F H f c xs->dH K F H h c xs
 |c,[],r=>r
 |c,y::ys,r=>by obtain⟨u,t,e,i,q⟩:=r;exact⟨u,t,e,Rep.keep (λa o e b=>d a o y.1 e b) (λ_ z=>z) _ i,q.keep d⟩
theorem dH.len {K:Z5}:∀{a:List V} {xs:List GD},dH K F H H' a xs->a.length=xs.length
 |a,[],r=>by have e:a=[]:=r;subst e;rfl
 |a,y::b,r=>by obtain⟨u,t,rfl,c,q⟩:=r;rw[bz,bz,q.len]
theorem Iw:∀l r,hK f l=.ok r->r.length<=l.length
 | [],r,h=>by cases h;simp_all
 |x::l,r,h=>by
  obtain⟨o,c,h⟩:=Res.aB h;obtain⟨a,b,h⟩:=Res.aB h;have:=Iw l a b;cases h;cases o with
  |none=>exact a8 this (by simp)
  |some y=>simp only[oc,bz];omega
def zgq (nt:Nat)(js:List Nat)(t:Tg)(fw:Rho->Res (G×List D))(fc:Rho->Res Bool)(fe:Rho->Res GD):Rho->Res GD:=λρ=>fw ρ>>=λw=>hK (λx=>eD t (gJ x w.1,x) (bc nt Z8++js.map λj=>cL (ρ.getD j Z8))>>=λρ1=>fc ρ1>>=λk=>if k then fe ρ1>>=λy=>.ok (Z9 y)else .ok Z8) w.2>>=λys=>.ok (oF ys,.list (ys.map (·.2)))
def Qm (g:TG)(tc:TT)(te:TE)(em:L2.St->L2.St)(σ:L2.St)(Q:VK):It->Hp->Prop:=λJ H1=>∀l,H1 l=Z8->∃P:Nat->Nat->List V->Hp->Prop,(∃m,P 0 m [] (upd H1 l (.lst [])))/\∀i m acc H2,P i m acc H2->(J.stop i H2/\Q (.ref l) H2)\/(J.go i H2/\acc.length<bb/\∃N:List V->Hp->Prop,(∀lS H',N lS H'->∃m',m'<m/\P (i+1) m' lS H')/\∀x H3,J.fJ i H2 x H3->g x (em σ) H3 λjK H4=>eQ (em σ) jK/\tc jK H4 λb H5=>if b=Z7 then te jK H5 λy H6=>H6 l=Z9 (.lst acc)/\N (acc++[y]) (upd H6 l (.lst (acc++[y])))else N acc H5)
abbrev CI (K:Z5)(F:Fm)(f:D->Res (Option GD))(ds:List D)(H1:Hp)(l:Nat)(i:Nat)(acc:List V)(H2:Hp):Prop:=H2 l=Z9 (.lst acc)/\(∀a o,H1 a=Z9 o->H2 a=Z9 o)/\∃ys,hK f (ds.take i)=.ok ys/\dH K F (upd H1 l (.lst [])) H2 acc ys
theorem zay {fc:Rho->Res Bool}(ht0:∀i∈tgIx t,i<nt)(so:StOk X.K F H σ ρ)(e:zgq nt js t fw fc fe ρ=.ok z)(q:∀v D,Same H D->Rep X.K D (BG F H z.1) v z.2->Q v D):
  ∃w,fw ρ=.ok w/\∀J B D,Same H D->(∀a,B a->BG F H w.1 a/\¬nw D a)->Walk X.K J B D w.2->Qm (tDG X.K t) (dS X.K fc) (tD X.K fe) (eP nt js) σ Q J D:=by
 obtain⟨w,W,e⟩:=Res.aB e;obtain⟨Y,e2,e⟩:=Res.aB e;cases e;refine⟨w,W,λJ B s s1 hB wk l I=>?_⟩;generalize hr:(bc nt Z8++js.map λj=>cL (ρ.getD j Z8))=Iy at e2;generalize hf:(λx=>eD t (gJ x w.1,x) Iy>>=λn=>fc n>>=λk=>if k then fe n>>=λy=>Res.ok (Z9 y)else .ok Z8)=f at e2;have Iz:=so.same s1;have Di:∀i,∃S,hK f (w.2.take i)=.ok S:=λi=>by rw[<-List.take_append_drop i w.2]at e2;obtain⟨r1,r2,T,_,_⟩:=Dh _ _ _ e2;exact⟨r1,T⟩
 let L:Fm:={F with V:=λa=>F.V a/\a≠l,O:=λ_=>Z8}
 refine zu6 (CI X.K L f w.2 s l) wk.len ?_ ?_ ?_ ?_ ?_
 .exact⟨aO,λa o e=>by rw[aA (bY e I)];exact e,[],rfl,rfl⟩
 .rintro i p U ⟨_,_,S,M,rs⟩
  rw[rs.len];have:=Iw _ _ M;rw[db]at this;omega
 .rintro p U ⟨T,E,S,M,rs⟩
  rw[gg]at M;rw[e2]at M;cases M;refine⟨wk.stop U (λa o e _=>E a o e),q _ _ (λa o e=>E a o (s1 a o e)) ?_⟩;have IA:=s1.none I;refine⟨l,p,rfl,.inl ⟨T,?_⟩,rs.jS λx hx a hb=>?_⟩
  .show BG F H (oF Y) (Z9 l);unfold oF;split
   .exact IA
   .exact so.aK l IA
  .unfold oF;by_cases ea:(Y.all λx=>x.1==.fr)=Z7
   .rw[xh ea];have Qn:x.1=.fr:=by simpa using bg.mp ea x hx
    rw[Qn]at hb;cases a with
    |none=>exact hb
    |some a=>
     have eJ:upd s l (.lst []) a=none:=hb
     have:s a=none:=by
      by_cases c:a=l
      .subst c;exact I
      .rw[aA c]at eJ;exact eJ
     exact s1.none this
   .rw[xk ea];have:bM L a:=BG.aK (λa e=>((Iz.blk nt js l [] I).aK a e)) hb;cases a with
    |none=>exact this
    |some a=>exact this.1
 .rintro i p U N ⟨_,E,_⟩
  exact wk.go U (λa o e _=>E a o e) i N
 .rintro i p U x H3 N ⟨T,E,S,M,rs⟩ y
  obtain⟨s3,d,hd,rx⟩:=wk.fJ U (λa o e _=>E a o e) i x H3 N y;obtain⟨Yi,A⟩:=Di (i+1);have P:w.2.take (i+1)=w.2.take i++[d]:=by rw[List.take_add_one,hd];rfl
  rw[P]at A;obtain⟨r1,r2,g1,g2,g3⟩:=Dh _ _ _ A;rw[M]at g1;cases g1;obtain⟨o,C,g2⟩:=Res.aB g2;obtain⟨r3,g5,g2⟩:=Res.aB g2;cases g5;rw[<-hf]at C;obtain⟨n,k1,C⟩:=Res.aB C;obtain⟨k,k2,C⟩:=Res.aB C
  have sb:StOk X.K L H3 (eP nt js σ) Iy:=by
   rw[<-hr];refine(Iz.blk nt js l p I).same λa o e=>s3 a o ?_;by_cases c:a=l
   .subst c;rw[aO]at e;rw[T];exact e
   .rw[aA c]at e;exact E a o e
  have Dj:Rep X.K H3 (BI L (gJ d w.1)) x d:=by
   unfold gJ;by_cases N:aM d=Z7
   .rw[xh N];exact Rep.aT d N rx
   .rw[xk N];refine rx.weak λa b=>?_;obtain⟨r,b2⟩:=hB a b;have G:=BI.of so.aK r;cases a with
    |none=>cases hw:w.1<;>rw[hw]at G<;>exact G
    |some a=>
     have c:a≠l:=λz=>b2 (by rw[z];exact I);cases hw:w.1<;>rw[hw]at G
     .exact⟨G,c⟩
     .exact⟨G.1,G.2,c⟩
     .exact⟨G,c⟩
     .exact⟨G,c⟩
  refine⟨_,L,(gJ d w.1,d),n,sb,Dj,k1,λjK R Af h=>⟨⟨h.len.symm,λj v hj=>?_⟩,n,R,k,Af,k2,λH5 s5=>?_⟩⟩
  .by_cases IB:j∈tgIx t
   .have :=ht0 j IB;unfold eP at hj;rw[iw (cq▸this),du,xh this]at hj;cases hj
   .rw[h.rest j IB];exact hj
  .have h5:∀a o,s a=Z9 o->H5 a=Z9 o:=λa o e=>s5 a o (s3 a o (E a o e));have u:=s5 _ _ (s3 _ _ T);have IC:=rs.keep λa o g e _=>s5 a o (s3 a o e);cases k with
   |false=>cases C;cases g2;refine jI ⟨u,h5,S,?_,IC⟩;rw[P,A,g3];simp[oc]
   |true=>
    obtain⟨yv,k3,C⟩:=Res.aB C;cases C;cases g2;refine jJ ⟨n,R,yv,Af.same s5,k3,λv H6 s6 rv=>⟨s6 _ _ u,aO,λa o e=>?_,S++[yv],?_,?_⟩⟩
    .rw[aA (bY e I)];exact s6 a o (h5 a o e)
    .rw[P,A,g3];rfl
    .have Qo:=s6 _ _ u
     have hk:∀a o g,H6 a=Z9 o->(BG L (upd s l (.lst [])) g (Z9 a)\/Fix o)->upd H6 l (.lst (p++[v])) a=Z9 o:=λa o g e b=>by
      have c:a≠l:=by
       intro z;subst z;rcases b with b|b
       .cases g with
        |fr=>have m:upd s a (.lst []) a=none:=b;rw[aO]at m;cases m
        |od=>exact b.2.2 rfl
        |al=>exact b.2 rfl
        |nu=>
         rcases b with b|b
         .have m:upd s a (.lst []) a=none:=b;rw[aO]at m;cases m
         .exact b.2.2.2 rfl
       .rw[Qo]at e;cases e;exact b
      rw[aA c];exact e
     have Dk:Rep X.K H6 (BG L (upd s l (.lst [])) yv.1) v yv.2:=by
      refine rv.weak λa b=>?_;cases hg:yv.1 with
      |fr=>
       rw[hg]at b;cases a with
       |none=>exact b
       |some a=>
        have m:H5 a=none:=b;show upd s l (.lst []) a=Z8;rw[aA (λz=>by rw[z,u]at m;cases m)];cases W:s a with
        |none=>rfl
        |some o=>rw[h5 a o W]at m;cases m
      |nu=>
       rw[hg]at b;cases a with
       |none=>exact b
       |some a=>
        rcases b with b|b
        .have m:H5 a=none:=b;refine .inl ?_;show upd s l (.lst []) a=Z8;rw[aA (λz=>by rw[z,u]at m;cases m)];cases W:s a with
         |none=>rfl
         |some o=>rw[h5 a o W]at m;cases m
        .refine .inr ⟨rfl,?_,?_⟩
         .have:=b.2.1;rw[h.h0]at this;exact this
         .have:=b.2.2;rw[h.v]at this;exact this
      |od=>
       rw[hg]at b;cases a with
       |none=>have r:R.z:=b;rw[h.z]at r;exact r
       |some a=>have r:R.H0 a≠Z8/\R.V a:=b;rw[h.h0,h.v]at r;exact r
      |al=>
       rw[hg]at b;cases a with
       |none=>have r:R.z:=b;rw[h.z]at r;exact r
       |some a=>have r:R.V a:=b;rw[h.v]at r;exact r
     exact((IC.keep λa o g e _=>s6 a o e).snoc Dk).keep hk
theorem Qp {fc:Rho->Res Bool}(ht0:∀i∈tgIx t,i<nt):∀σ H Q,tD X.K (zgq nt js t fw fc fe) σ H Q->xw (tDW X.K fw) (tDG X.K t) (dS X.K fc) (tD X.K fe) (eP nt js) σ H Q:=by
 rintro σ H Q ⟨ρ,F,z,so,e,q⟩
 obtain⟨w,e1,h⟩:=zay ht0 so e q;exact⟨ρ,F,w,so,e1,h⟩
theorem zcq {fc:Rho->Res Bool}(hc:X.calm=Z7)(Bk:BlkScope X scope N' nt js)(ht0:∀i∈tgIx t,i<nt)(hi:PI X tg iter (tDW X.K fw))
  (hg:∀C fp s H,PG (blk X scope N' C fp s H) tg (tDG X.K t)) (ht:∀C fp s H,oB (blk X scope N' C fp s H) ifs (dS X.K fc)) (he:∀C fp s H,PE (blk X scope N' C fp s H) elt (tD X.K fe)) (hs:∀x,gx iter X.env x=pure x):
  PE X (.ListComp elt [⟨tg,iter,ifs,0⟩] scope pos) (tD X.K (zgq nt js t fw fc fe))/\∀σ H Q,tD X.K (zgq nt js t fw fc fe) σ H Q->xw (tDW X.K fw) (tDG X.K t) (dS X.K fc) (tD X.K fe) (eP nt js) σ H Q:=by
 have main:=Qp (X:=X) (js:=js) (fw:=fw) (fc:=fc) (fe:=fe) ht0;exact⟨PE.imp (z99 hc Bk hi hg ht he hs) main,main⟩
end
def BC (H:Hp)(A:Ad->Prop):G->Ad->Prop
 |.fr=>nw H
 |.od=>λa=>nw H a\/A a
 |.al=>λa=>nw H a\/A a
 |.nu=>nw H
def spD (K:Z5)(n:Nat)(m:Fn):Sp:=λvs H Q _=>∃A ds x,vs.length=n/\Reps K H A vs ds/\m ds=.ok x/\∀v H',Same H H'->Rep K H' (BC H A x.1) v x.2->Q v H'
section
variable {X:Cx}{tg a b c e o:Expr}{es:List Expr}{fa fb fc:Rho->Res GD}{pos:Pos}
theorem zsd (o:Cal X.prog X.w X.K X.mg X.base k x ps (spD X.K n m))(hr:Room s X.A)(t:k<=s)(u:PA X (e::es) (tDA X.K fs))(g:((e::es).all fun e=> !isStar e)=Z7)(c:Gl X x)(i:YC x)
  (y:∀d b,fs d=.ok b->b.length=n):PE X (.Call (.Name x p) (e::es) [] pos) (tD X.K λd=>fs d>>=λb=>m (b.map (·.2))>>=λr=>.ok (gJ r.2 (iT r.1),r.2)):=
 PE.imp (zho o hr u g t c i) λI H Q ⟨d,F,z,so,e,q⟩=>by
  obtain⟨b,j,e⟩:=Res.aB e;obtain⟨r,B,e⟩:=Res.aB e;cases e;refine⟨d,F,b,so,j,λC l f rs=>?_⟩;show spD X.K n m (C++[]) l Q E0;rw[ce];refine⟨_,_,r,by rw[rs.len];exact y d b j,rs.iU so.aK,B,λv D E G=>q v D (f.trans E) (pX G λa h=>?_)⟩;have al:(nw l a\/bM F a)->bM F a:=λh=>h.elim (λh=>(nw.back f h).aK so.aK) λh=>h;cases c:r.1 with
  |fr=>rw[c]at h;exact nw.back f h
  |od=>rw[c]at h;exact al h
  |al=>rw[c]at h;exact al h
  |nu=>rw[c]at h;exact nw.back f h
def rMt (K:Z5)(m:String):V->List V->Hp->VK->Prop:=λx xs H Q=>∃B B' dx ds d,Rep K H B x dx/\Reps K H B' xs ds/\mtD m dx ds=.ok d/\∀w H',Same H H'->Rep K H' (λa=>nw H a\/B a\/B' a) w d->Q w H'
theorem rM (h:rT o=Z7):pf o n env w=w:=by
 unfold pf;split
 .rename_i id p pos;cases h
 .rfl
theorem ID:∀{es:List Expr},(es.all λe=> !isStar e)=Z7->(nz pos (eo es env)).all (λx=> !x.1)=Z7
 | [],_=>rfl
 |e::es,h=>by have h:=az.mp (c8▸h);rw[dW (by simpa using h.1)];show(Z7&&(nz pos (eo es env)).all (λx=>!x.1))=Z7;rw[ID h.2];rfl
theorem za2 (h:(es.all fun e=> !isStar e)=Z7)(a:es.length<20):((nz cpos (eo es env)).all (fun x=> !x.1)&&(backToKw cpos (vy [] env)).all (fun x=>x.1.isSome)
  &&decide (es.length+([]:List sr).length+(if([]:List sr).isEmpty then 0 else 1)<30))=true:=by
 rw[ID h];show(Z7&&Z7&&decide (es.length+0+0<30))=Z7;rw[xp (by omega)];rfl
theorem d_mt {id:String}(pa:w5 T)(slot:PySem.Slot T n id)(l:w6 (.builtin id)=pure (.type "method_descriptor"))(hm:MtR X id (rMt X.K m))(A:∀H B x dx C d,Rep X.K H B x dx->mtD m dx C=.ok d->tyV X.K T x H)
  (D:PE X o (tD X.K fa)) (E:PA X (e::es) (tDA X.K fs)) (p:rT o=Z7) (f:((e::es).all λe=>!isStar e)=Z7) (G:(e::es).length<20) (c:(g.endLine==i.line)=Z7):
  PE X (.Call (.Attribute o n g) (e::es) [] i) (tD X.K λj=>fa j>>=λx=>fs j>>=λr=>mtD m x.2 (r.map (·.2))>>=λd=>.ok (gJ d .al,d)):=by
 have b:=f;rw[c8,bq]at b;refine PE.imp (zgk pa slot l hm D E (rM p) (za2 f G) c (dW (by simpa using b.1)) (oD b.2)) λP H Q I=>?_;obtain⟨j,F,z,so,e,q⟩:=I;obtain⟨x,J,e⟩:=Res.aB e;obtain⟨r,L,e⟩:=Res.aB e;obtain⟨d,u,e⟩:=Res.aB e;cases e;refine⟨j,F,x,so,J,λv M k y=>⟨A M _ v x.2 _ d y u,j,F,r,so.same k,L,λR S s rs=>?_⟩⟩;refine⟨_,_,x.2,_,d,y.same s λ_ z=>z,rs.iU (so.same k).aK,u,λw N O t=>q w N ((k.trans s).trans O) (pX t λa h=>?_)⟩;rcases h with h|h|h
 .exact(nw.back (k.trans s) h).aK so.aK
 .exact h.aK so.aK
 .exact h
theorem Qq (hu:X.A.units+64<cLine):MtR X "dict.get" (rMt X.K "get"):=by
 rintro f s y H x C v D Q I h rs ⟨B,E,dx,F,d,i,j,e,q⟩
 simp only[mtD,if_true]at e;split at e
 .rename_i es k d0;split at e
  case isFalse=>cases e
  rename_i l;cases e;obtain⟨G,J,rfl,m,n⟩:=Dd j;obtain⟨kk,rfl,rfl,_⟩:=xT l m;obtain⟨a,kvs,rfl,g1,_,g2⟩:=i;cases h;obtain⟨L,M,rfl,o,p⟩:=vals2 rs;have b:=g2.val kk;refine zp8 (by omega) I (DGet.k g1) o p λN O r c=>⟨_,H,r,c,q _ H (Same.refl H) ?_⟩;cases g:cU es (kD kk)with
  |none=>rw[g]at b;rw[show cJ kvs kk=Z8 from b];exact n.weak λ_ z=>.inr (.inr z)
  |some P=>rw[g]at b;obtain⟨w,t,u⟩:=b;rw[t];exact u.weak λ_ z=>.inr (.inl z)
 .cases e
theorem Qr (r:Rep X.K H B x dx)(e:mtD "get" dx ds=.ok d):tyV X.K "dict" x H:=by
 simp only[mtD,if_true]at e;split at e
 .obtain⟨a,kvs,rfl,g1,_,_⟩:=r;exact .inr (.inr (.inl ⟨rfl,.inl ⟨kvs,g1⟩⟩))
 .cases e
end
section
variable {X:Cx}{o e:Expr}{fa fb:Rho->Res GD}
end
def cO (F:Fm)(H:Hp)(F':Fm)(H':Hp):Prop:=∀a o,H a=Z9 o->F.O a=Z8->H' a=Z9 o/\F'.O a=Z8
theorem cO.refl:cO F H F H:=λ_ _ e o=>⟨e,o⟩
theorem cO.trans (a:cO F H f g)(b:cO f g c d):cO F H c d:=λx o e n=>by obtain⟨h,n1⟩:=a x o e n;exact b x o h n1
theorem cO.same (s:Same H b):cO F H F b:=λa o e n=>⟨s a o e,n⟩
def Run (F F':Fm):Prop:=Same F.H0 F'.H0/\F'.V=F.V/\F'.z=F.z
theorem Run.refl:Run F F:=⟨λ_ _ e=>e,rfl,rfl⟩
theorem Run.trans (a:Run F d)(b:Run d c):Run F c:=⟨λx o e=>b.1 x o (a.1 x o e),b.2.1.trans a.2.1,b.2.2.trans a.2.2⟩
theorem Run.of (h:a.H0=F.H0)(v:a.V=F.V)(z:a.z=F.z):Run F a:=⟨λ_ _ e=>by rw[h];exact e,v,z⟩
def BR (F:Fm):G->Ad->Prop
 |.fr=>λa=>match a with|some a=>F.H0 a=Z8|none=>False
 |.od=>bM F
 |.al=>bM F
 |.nu=>λa=>match a with|some a=>F.H0 a=Z8|none=>False
def xW (K:Z5)(F:Fm)(H:Hp)(D:Ends):Out->Prop
 |.nx cF=>∀σ' H' F',StOk K F' H' σ' cF->Run F F'->cO F H F' H'->D.nx σ' H'
 |.rt g d=>∀v H',(∀a o,F.H0 a=Z9 o->H' a=Z9 o)->Rep K H' (BR F g) v d->D.rt v H'
def tDS (K:Z5)(f:Rho->Res Out):TS:=λD σ H=>∃ρ F out,StOk K F H σ ρ/\f ρ=.ok out/\xW K F H D out
theorem none_of (s:Same H b)(h:b a=Z8):H a=none:=by
 cases e:H a with
 |none=>rfl
 |some o=>rw[s a o e]at h;cases h
theorem BR.run (r:Run F c)(h:BR c g a):BR F g a:=by obtain⟨d,e,f⟩:=r;cases g<;>cases a<;>first|exact h|(exact none_of d h)|(have b:c.V _:=h;rw[e]at b;exact b)|(have b:c.z:=h;rw[f]at b;exact b)
theorem xW.back {K:Z5}{D:Ends}(r:Run F m)(f:cO F H m n)(h:xW K F H D i):xW K m n D i:=by
 cases i with
 |nx p=>exact λj c l so q s=>h j c l so (r.trans q) (f.trans s)
 |rt g d=>exact λv c k t=>h v c (λa o e=>k a o (r.1 a o e)) (t.weak λ_ b=>b.run r)
section
variable {X:Cx}{tg a b c e:Expr}{es:List Expr}{fa fb fc:Rho->Res GD}{pos:Pos}{st:Stmt}{rest A Bs:List Stmt}{fs gs:Rho->Res Out}
theorem Qs:PSs X [] (tDS X.K λa=>.ok (.nx a)):=PSs.imp Hh λD b H ⟨a,F,c,so,e,q⟩=>by cases e;exact q b H F so Run.refl cO.refl
theorem Qt (j:PS X st (tDS X.K fs))(k:PSs X rest (tDS X.K gs)):PSs X (st::rest) (tDS X.K λa=>oH (fs a) gs):=
 PSs.imp (Hi j k) λD n H ⟨a,F,b,so,e,q⟩=>by
  have e:oH (fs a) gs=.ok b:=e;cases h:fs a with
  |no=>rw[h]at e;cases e
  |ok o1=>
   rw[h]at e;cases o1 with
   |nx c=>exact⟨a,F,.nx c,so,h,λl o m i r f=>⟨c,m,b,i,e,q.back r f⟩⟩
   |rt g d=>cases e;exact⟨a,F,.rt g d,so,h,q⟩
theorem Dl (hc:PT X c (dS X.K ft))(f:PSs X A (tDS X.K fs))(g:PSs X h (tDS X.K gs)):PS X (.If c A h pos) (tDS X.K λa=>ft a>>=λk=>if k then fs a else gs a):=
 PS.imp (Hj hc f g) λD j H ⟨a,F,b,so,e,q⟩=>by
  obtain⟨k,i,e⟩:=Res.aB e;refine⟨a,F,k,so,i,λl d=>?_⟩;cases k with
  |true=>exact jJ ⟨a,F,b,so.same d,e,q.back Run.refl (cO.same d)⟩
  |false=>exact jI ⟨a,F,b,so.same d,e,q.back Run.refl (cO.same d)⟩
theorem Qu {K:Z5}(so:∀a o,F.H0 a=Z9 o->H a=Z9 o)(hv:∀a,H a=Z8->F.V a)(r:Rep K H' (BG F H g) v d):Rep K H' (BR F (iT g)) v d:=by
 refine r.weak λa b=>?_;cases g with
 |fr=>
  cases a with
  |none=>exact b
  |some a=>exact Same.none so b
 |od=>exact fD.aK b
 |al=>exact b
 |nu=>
  cases a with
  |none=>exact b.elim id id
  |some a=>exact b.elim (λb=>Same.none so b) λb=>b.2.1
theorem Qv (c:PE X e (tD X.K fa)):PS X (.Return (Z9 e) pos) (tDS X.K λb=>fa b>>=λx=>.ok (.rt (iT x.1) x.2)):=PS.imp (BS c) λD j H ⟨b,F,d,so,e,q⟩=>by obtain⟨x,f,e⟩:=Res.aB e;cases e;exact⟨b,F,x,so,f,λv g h i=>q v g (λa o e=>h a o (so.ext a o e)) (Qu so.ext so.aK i)⟩
theorem Slot.ret {K:Z5}(so:∀a i,F.O a=Z9 i->F.H0 a=Z8/\F.V a)(h:Slot K F H i g v d):Rep K H (BR F (if aM d then .fr else iT g)) v d:=by
 by_cases c:aM d=Z7
 .rw[xh c];exact Rep.aT d c (h.rep λa i e=>(so a i e).2)
 .rw[xk c];cases g with
  |fr=>
   obtain⟨p,e,o,h⟩:=h
   have k:∀a,Bin F a->BR F .fr a:=λa b=>by
    cases a with
    |none=>exact b
    |some a=>exact b.2.1
   rcases h with⟨f,l,rfl,j,r⟩|⟨f,l,rfl,j,r⟩
   .exact⟨p,f,e,.inl ⟨j,(so _ _ o).1⟩,r.weak k⟩
   .exact⟨p,f,e,j,(so _ _ o).1,REs.same (λ_ _ e=>e) k r⟩
  |od=>exact Rep.weak (λ_ b=>b.aK) h
  |al=>exact h
  |nu=>
   refine Rep.weak (λa b=>?_) h;cases a with
   |none=>exact b
   |some a=>exact b.2.1
theorem zp4 {i:Nat}(hN:X.N[i]?=Z9 x)(j:Vis X.env.scope x)(hd:YC x)(c:(x==("__classdict__":Str))=Z6):
  PS X (.Return (Z9 (.Name x p)) pos) (tDS X.K λb=>match b[i]? with|some (Z9 (g,d))=>.ok (.rt (if aM d then .fr else iT g) d)|_=>.no):=
 PS.imp (BS (nW hN j hd c)) λD m H ⟨b,F,f,so,e,q⟩=>by
  have e:(match b[i]? with|some (Z9 (g,d))=>Res.ok (Out.rt (if aM d then .fr else iT g) d)|_=>.no)=.ok f:=e;cases h:b[i]? with
  |none=>rw[h]at e;cases e
  |some o=>
   rw[h]at e;cases o with
   |none=>cases e
   |some gd=>obtain⟨g,d⟩:=gd;cases e;obtain⟨v,k,l⟩:=so.sl i g d h;exact⟨v,k,q v H so.ext (l.ret λa i e=>⟨(so.own a i e).1,(so.own a i e).2.1⟩)⟩
theorem Qw (hs:z25 e=Z6)(c:PE X e (tD X.K fa)):PS X (.Expr e pos) (tDS X.K λa=>fa a>>=λ_=>.ok (.nx a)):=PS.imp (lT c hs) λD d H ⟨a,F,f,so,e,q⟩=>by obtain⟨x,g,e⟩:=Res.aB e;cases e;exact⟨a,F,x,so,g,λv h b i=>q d h F (so.same b) Run.refl (cO.same b)⟩
theorem REs.aT {K:Z5}:∀{kvs:List (Key×V)} es,bU es=Z7->REs K H B kvs es->REs K H B' kvs es
 |kvs,[],_,r=>r
 |kvs,(kd,d)::es,i,r=>by unfold bU at i;rw[c8,bq]at i;obtain⟨k,v,t,e,a,ok,h,q⟩:=r;exact⟨k,v,t,e,a,ok,Rep.aT d i.1 h,REs.aT es i.2 q⟩
theorem StOk.fL {K:Z5}(so:StOk K F H d ρ){a:Ad}(h:nw H a):Bin F a:=by
 cases a with
 |none=>exact h
 |some a=>
  refine⟨?_,Same.none so.ext h,so.aK a h⟩;cases b:F.O a with
  |none=>rfl
  |some j=>obtain⟨_,_,z⟩:=so.own a j b;rcases z with⟨c,z⟩|⟨c,z⟩<;>rw[h]at z<;>cases z
theorem StOk.Dm {K:Z5}(so:StOk K F H σ ρ)(r:Rep K H (Bin F) v d):StOk K (F.drop i) H (σ.set i (Z9 v)) (ρ.set i (Z9 (.nu,d))):=by
 have z:=so.lZ (i:=i) (x:=(.al,d)) (Rep.weak (λ_ b=>Bin.aK b) r);refine⟨z.ext,z.aK,z.own,by rw[cz,cz];exact so.len,λj g d' e=>?_⟩;by_cases hj:i=j
 .subst hj;rw[ga]at e;simp only[if_true]at e;split at e
  .rename_i hl;cases e;exact⟨v,by rw[ga];simp[so.len,hl],Rep.weak (λ_ b=>b.drop) r⟩
  .cases e
 .refine z.sl j g d' ?_;rw[cj hj]at e ⊢;exact e
def Fm.take (F:Fm)(i:Nat)(p:Addr):Fm:={F with O:=λa=>if a=p then Z9 i else if F.O a=Z9 i then Z8 else F.O a}
theorem cO.drop (s:Same H H'):cO F H (F.drop i) H':=λa o e n=>⟨s a o e,Fm.bL n⟩
theorem StOk.setA {K:Z5}(so:StOk K F H Q R)(t:Same H s)(r:Rep K s (BG F H x.1) v x.2):
  ∃f,StOk K f s (Q.set i (Z9 v)) (R.set i (Z9 (z1r x)))/\Run F f/\cO F H f s:=by
 have w:=so.same t;obtain⟨g,d⟩:=x
 have l:z1r (g,d)=z17 (if aM d then .al else Ig g,d)->∃f,StOk K f s (Q.set i (Z9 v)) (R.set i (Z9 (z1r (g,d))))/\Run F f/\cO F H f s:=λe=>by
  rw[e];refine⟨F.drop i,w.lZ ?_,Run.of rfl rfl rfl,cO.drop t⟩;by_cases k:aM d=Z7
  .rw[xh k];exact Rep.aT d k r
  .rw[xk k];cases g with
   |fr=>exact r.weak λ_ b=>nw.aK so.aK b
   |od=>exact r
   |al=>exact r
   |nu=>exact r.weak λ_ b=>b.elim (nw.aK so.aK) Bin.aK
 have A:z1r (g,d)=(.nu,d)->(∀a,BG F H g a->Bin F a)->∃f,StOk K f s (Q.set i (Z9 v)) (R.set i (Z9 (z1r (g,d))))/\Run F f/\cO F H f s:=λe E=>by rw[e];exact⟨F.drop i,w.Dm (Rep.weak E r),Run.of rfl rfl rfl,cO.drop t⟩
 have own:∀p,F.O p=Z8->H p=Z8->F.H0 p=Z8->F.V p->v=.ref p->z1r (g,d)=(.fr,d)->(∀f,(∀a,Bin F a\/nw H a->a≠Z9 p->Bin f a)->f.O p=Z9 i->Slot K f s i .fr v d)->(((∃I,s p=Z9 (.lst I))\/∃kvs,s p=Z9 (.dK kvs)))->
   ∃f,StOk K f s (Q.set i (Z9 v)) (R.set i (Z9 (z1r (g,d))))/\Run F f/\cO F H f s:=λp U c X Y ev es Z J=>by
  have B:∀a,a≠p->(F.take i p).O a=(F.drop i).O a:=λa ha=>by show(if a=p then Z9 i else _)=_;rw[xk ha];rfl
  have Qx:∀a,H a=Z8->F.O a=none:=λa e=>by
   cases C:F.O a with
   |none=>rfl
   |some j=>obtain⟨_,_,h⟩:=so.own a j C;rcases h with⟨I,h⟩|⟨I,h⟩<;>rw[e]at h<;>cases h
  have y:∀a,Bin F a\/nw H a->a≠Z9 p->Bin (F.take i p) a:=λa b kR=>by
   cases a with
   |none=>exact b.elim id id
   |some a=>have q:a≠p:=λz=>kR (by rw[z]);have E:=b.elim id λb=>⟨Qx a b,(λa e=>Same.none so.ext e) a b,so.aK a b⟩;exact⟨by rw[B a q];exact Fm.bL E.1,E.2⟩
  have L:(F.take i p).O p=Z9 i:=by show(if p=p then Z9 i else _)=_;rw[xh rfl]
  refine⟨F.take i p,⟨w.ext,w.aK,λa j e=>?_,by rw[cz,cz];exact so.len,λj g' d' e=>?_⟩,Run.of rfl rfl rfl,λa o e n=>⟨t a o e,?_⟩⟩
  .by_cases q:a=p
   .subst q;exact⟨X,Y,J⟩
   .rw[B a q]at e
    have e':F.O a=Z9 j:=by
     have:(if F.O a=Z9 i then Z8 else F.O a)=Z9 j:=e;split at this
     .cases this
     .exact this
    exact w.own a j e'
  .by_cases hj:i=j
   .subst hj;rw[ga]at e;simp only[if_true]at e;split at e
    .rename_i hl;have C:z1r (g,d)=(g',d'):=by simpa using e
     rw[es]at C;cases C;exact⟨v,by rw[ga];simp[so.len,hl],Z _ y L⟩
    .cases e
   .rw[cj hj]at e ⊢;obtain⟨u,h1,S⟩:=so.sl j g' d' e;refine⟨u,h1,?_⟩;cases g' with
    |fr=>
     obtain⟨T,C,o1,h3⟩:=S;refine⟨T,C,?_,?_⟩
     .rw[B T (λz=>by rw[z,U]at o1;cases o1)];show(if F.O T=Z9 i then Z8 else F.O T)=Z9 j;rw[o1,xk (λz=>hj (xl z).symm)]
     .have M:∀a,Bin F a/\¬nw H a->Bin (F.take i p) a:=λa b=>y a (.inl b.1) λz=>b.2 (z▸c);rcases h3 with⟨G,D,e3,e2,r3⟩|⟨G,D,e3,e2,r3⟩
      .exact .inl ⟨G,D,e3,t _ _ e2,Reps.same t M (Reps.there _ r3)⟩
      .exact .inr ⟨G,D,e3,t _ _ e2,REs.same t M (REs.there _ r3)⟩
    |od=>exact Rep.same t (λ_ b=>b) S
    |al=>exact Rep.same t (λ_ b=>b) S
    |nu=>exact Rep.same t (λa b=>y a (.inl b.1) λz=>b.2 (z▸c)) (Rep.there _ S)
  .have q:a≠p:=λz=>by rw[z,c]at e;cases e
   rw[B a q];exact Fm.bL n
 have N:∀p,H p=Z8->F.O p=none:=λp c=>by
  cases C:F.O p with
  |none=>rfl
  |some j=>obtain⟨_,_,P⟩:=so.own p j C;rcases P with⟨I,P⟩|⟨I,P⟩<;>rw[c]at P<;>cases P
 by_cases k:aM d=Z7
 .exact l (by show(if aM d then _ else _)=_;rw[xh k];rw[xh k];rfl)
 .cases g with
  |od=>exact l (by delta z1r;simp only[xk k];rfl)
  |al=>exact l (by delta z1r;simp only[xk k];cases d<;>rfl)
  |nu=>exact A (by delta z1r;simp only[xk k]) λa b=>b.elim so.fL id
  |fr=>
   cases d with
   |none=>exact absurd rfl k
   |bool b=>exact absurd rfl k
   |int b=>exact absurd rfl k
   |str b=>exact absurd rfl k
   |tuple D=>exact A (by delta z1r;simp only[xk k]) λa b=>so.fL b
   |list D=>
    by_cases m:imms D=Z7
    .obtain⟨p,G,ev,h,rs⟩:=r;rcases h with⟨h,b⟩|⟨_,b⟩
     .have c:H p=none:=b;exact own p (N p c) c (Same.none so.ext c) (so.aK p c) ev (by delta z1r;simp only[xk k,xh m]) (λf E ho=>⟨p,ev,ho,.inl ⟨G,D,rfl,h,Reps.aT D m rs⟩⟩) (.inl ⟨G,h⟩)
     .exact b.elim
    .exact A (by delta z1r;simp only[xk k,xk m]) λa b=>so.fL b
   |dict es=>
    by_cases m:bU es=Z7
    .obtain⟨p,kvs,ev,h,b,rs⟩:=r;have c:=b;exact own p (N p c) c (Same.none so.ext c) (so.aK p c) ev (by delta z1r;simp only[xk k,xh m]) (λf E ho=>⟨p,ev,ho,.inr ⟨kvs,es,rfl,h,REs.aT es m rs⟩⟩) (.inr ⟨kvs,h⟩)
    .exact A (by delta z1r;simp only[xk k,xk m]) λa b=>so.fL b
theorem IE {K:Z5}{te:TE}(h:∀a H Q,tD K fa a H Q->te a H Q)(D:Ends)(a:L2.St)(H:Hp)(q:tDS K (λb=>fa b>>=λx=>.ok (.nx (b.set i (Z9 (z1r x))))) D a H):te a H λv c=>D.nx (a.set i (Z9 v)) c:=by obtain⟨b,F,g,so,e,q⟩:=q;obtain⟨x,j,e⟩:=Res.aB e;cases e;refine h a H _ ⟨b,F,x,so,j,λv c k l=>?_⟩;obtain⟨m,d,r,f⟩:=so.setA k l;exact q _ c m d r f
theorem zp9 (hN:X.N.Nodup)(b:X.N[i]?=Z9 x)(c:Loc X.env.scope x)(d:Sto X x)(hs:ma e (Z9 (.Name x px)) pos.line X.env=pure Z6)(f:PE X e (tD X.K fa)):
  PS X (.Assign [.Name x px] e pos) (tDS X.K λa=>fa a>>=λx=>.ok (.nx (a.set i (Z9 (z1r x))))):=
 PS.imp (z9t hN b c f hs d) λD g H q=>IE (λ_ _ _ h=>h) D g H q
theorem zti (j:PG X te (tDG X.K (.tp is)))(k:PE X e (tD X.K fa))(hs:tz [te] e pos.line X.env=pure Z6)(l:t5 [te] e X.env=pure Z8)(m:(g7 [te] X.env).map (·.2)=[t9 te X.env]):
  PS X (.Assign [te] e pos) (tDS X.K λf=>fa f>>=λx=>eD (.tp is) x f>>=λd=>.ok (.nx d)):=
 PS.imp (zq5 k j hs l m) λD y H ⟨f,F,p,so,e,q⟩=>by obtain⟨x,r,e⟩:=Res.aB e;obtain⟨d,s,e⟩:=Res.aB e;cases e;refine⟨f,F,x,so,r,λv t i u=>⟨f,F,x,d,so.same i,u.weak λ_ b=>BI.of so.aK b,s,λg w h c=>?_⟩⟩;exact q g t w h (Run.of c.h0 c.v c.z) λa o e n=>⟨i a o e,c.o a n⟩
theorem Ag {K:Z5}(so:StOk K F H σ ρ)(h:okIn y=Z7)(r:Rep K H1 (BG F H y.1) u y.2):Rep K H1 (Bin F) u y.2:=by
 obtain⟨g,d⟩:=y;rcases ij.mp h with hi|hg
 .exact Rep.aT d hi r
 rcases ij.mp hg with h|h
 .cases eq_of_beq h;exact Rep.weak (λa b=>so.fL b) r
 .cases eq_of_beq h;exact Rep.weak (λa b=>b.elim so.fL id) r
theorem StOk.mutate {K:Z5}(so:StOk K F H σ ρ)(hO:F.O p=Z9 i)(hσ:σ[i]?=Z9 (Z9 (.ref p)))(ho':(∃xs,o'=.lst xs)\/∃kvs,o'=.dK kvs)
  (hs:Slot K F (upd H p o') i .fr (.ref p) d'):StOk K F (upd H p o') σ ((ρ.set i (Z9 (.fr,d'))).map gC)/\cO F H F (upd H p o'):=by
 obtain⟨h0,hV,Dn⟩:=so.own p i hO;have kR:∀a,F.O a=Z8->a≠p:=λa e z=>by rw[z,hO]at e;cases e
 have oU:∀a o,H a=Z9 o->Fix o->a≠p:=λa o e f z=>by subst z;rcases Dn with⟨xs,h⟩|⟨xs,h⟩<;>rw[e]at h<;>cases h<;>exact f
 refine⟨⟨λa o e=>?_,λa e=>?_,λa j e=>?_,by rw[ae,cz];exact so.len,λj g d e=>?_⟩,(λa o e n=>⟨by rw[aA (kR a n)];exact e,n⟩)⟩
 .have rX:a≠p:=λz=>by rw[z,h0]at e;cases e
  rw[aA rX];exact so.ext a o e
 .by_cases rX:a=p
  .subst rX;exact hV
  .rw[aA rX]at e;exact so.aK a e
 .obtain⟨x1,x2,x3⟩:=so.own a j e;refine⟨x1,x2,?_⟩;by_cases rX:a=p
  .subst rX;rw[aO];rcases ho' with⟨xs,rfl⟩|⟨xs,rfl⟩
   .exact .inl ⟨xs,rfl⟩
   .exact .inr ⟨xs,rfl⟩
  .rw[aA rX];exact x3
 .rw[ba]at e;by_cases hj:i=j
  .subst hj;have hl:i<ρ.length:=by rw[<-so.len];exact(br.mp hσ).1
   rw[ga]at e;simp only[if_true,hl]at e;cases(by simpa using e);exact⟨_,hσ,hs⟩
  .rw[cj hj]at e;cases e2:ρ[j]? with
   |none=>rw[e2]at e;cases e
   |some sl=>
    rw[e2]at e;have e3:gC sl=Z9 (g,d):=by simpa using e
    cases sl with
    |none=>cases e3
    |some gd=>
     obtain⟨g0,d0⟩:=gd;obtain⟨v,h1,h2⟩:=so.sl j g0 d0 e2;refine⟨v,h1,?_⟩;cases g0 with
     |fr=>
      cases e3;obtain⟨p',e4,o4,h3⟩:=h2;have IF:p'≠p:=λz=>by rw[z,hO]at o4;simp_all
      have hk:∀a o,H a=Z9 o->(Bin F (Z9 a)\/Fix o)->upd H p o' a=Z9 o:=λa o e b=>by have:a≠p:=b.elim (λb=>kR a b.1) λf=>oU a o e f;rw[aA this];exact e
      refine⟨p',e4,o4,?_⟩;rcases h3 with⟨vs,ds,e5,e6,r⟩|⟨vs,ds,e5,e6,r⟩
      .exact .inl ⟨vs,ds,e5,by rw[aA IF];exact e6,Reps.keep hk (λ_ z=>z) ds r⟩
      .exact .inr ⟨vs,ds,e5,by rw[aA IF];exact e6,REs.keep hk (λ_ z=>z) ds r⟩
     |od=>cases e3;exact Rep.keep (λa o e b=>by have:a≠p:=b.elim (λb z=>by have b1:F.H0 a≠Z8/\F.V a:=b;rw[z]at b1;exact b1.1 h0) λf=>oU a o e f;rw[aA this];exact e) (λ_ z=>z) _ h2
     |nu=>cases e3;exact Rep.keep (λa o e b=>by have:a≠p:=b.elim (λb=>kR a b.1) λf=>oU a o e f;rw[aA this];exact e) (λ_ z=>z) _ h2
     |al=>
      change(if aM d0 then Z9 (G.al,d0)else Z8)=_ at e3;split at e3
      .rename_i Dp;cases e3;exact Rep.gP (λa o e f=>by rw[aA (oU a o e f)];exact e) _ Dp h2
      .cases e3
theorem Dq {K:Z5}(so:StOk K F H σ ρ)(e:ρ[i]?=Z9 (Z9 (.fr,d))):∃p,σ[i]?=Z9 (Z9 (.ref p))/\F.O p=Z9 i/\((∃vs ds,d=.list ds/\H p=Z9 (.lst vs)/\Reps K H (Bin F) vs ds)\/(∃kvs es,d=.dict es/\H p=Z9 (.dK kvs)/\REs K H (Bin F) kvs es)):=by obtain⟨v,h1,p,rfl,o,h⟩:=so.sl i .fr d e;exact⟨p,h1,o,h⟩
def Dr (m:String)(i:Nat)(fs:Rho->Res (List GD)):Rho->Res Out:=λρ=>fs ρ>>=λys=>match ρ[i]? with
 |some (Z9 (.fr,.list xs))=>lU m xs ys>>=λCM=>.ok (.nx ((ρ.set i (Z9 (.fr,.list CM))).map gC))
 |_=>.no
theorem zgd {fs:Rho->Res (List GD)}(hN:X.N[i]?=Z9 x)(C:Vis X.env.scope x)(hd:YC x)(l:(x==("__classdict__":Str))=Z6)(E:PA X (e::es) (tDA X.K fs))(g:((e::es).all fun e=>!isStar e)=Z7)(G:(e::es).length<20)(d:(I.endLine==J.line)=Z7):
  PS X (.Expr (.Call (.Attribute (.Name x p) "append" I) (e::es) [] J) pos) (tDS X.K (Dr "append" i fs)):=by
 have c:=g;rw[c8,bq]at c;refine PS.imp (lT (zgk PySem.F.plainAttrs_list PySem.F.slot_list_append PySem.F.type_list_append Cm (nW hN C hd l) E rfl (za2 g G) d (dW (by simpa using c.1)) (oD c.2)) rfl) λD L H M=>?_;obtain⟨P,F,Q,so,e,q⟩:=M;obtain⟨R,S,e⟩:=Res.aB e;split at e
 .rename_i T hr;obtain⟨U,f,e⟩:=Res.aB e;cases e;obtain⟨pa,v,m,h⟩:=Dq so hr;rcases h with⟨j,ds,n,w,r⟩|⟨_,_,n,_⟩
  .cases n;refine⟨_,v,.inl ⟨rfl,j,SqL.of w⟩,P,F,R,so,S,λus V k rs=>?_⟩;simp only[lU,if_true]at f;split at f
   .rename_i y;split at f
    case isFalse=>cases f
    rename_i hc;cases f;rw[az,decide_eq_true_iff]at hc;obtain⟨u,rfl,W⟩:=rs.one;have A:=k _ _ w;refine⟨pa,j,u,rfl,rfl,A,jT (by rw[r.length];omega),?_⟩
    have Y:Reps X.K (upd V pa (.lst (j++[u]))) (Bin F) (j++[u]) (T++[y.2]):=by
     refine Reps.keep (λa o e b=>?_) (λ_ z=>z) _ (Reps.append (r.same k λ_ z=>z) ⟨u,[],rfl,Ag so hc.1 W,rfl⟩)
     have s:a≠pa:=by
      intro z;subst z;rcases b with b|b
      .have B:F.O a=none:=b.1;rw[m]at B;cases B
      .rw[A]at e;cases e;exact b
     rw[aA s];exact e
    obtain⟨t,Z⟩:=(so.same k).mutate m v (.inl ⟨_,rfl⟩) ⟨pa,rfl,m,.inl ⟨_,_,rfl,aO,Y⟩⟩;exact q L _ F t Run.refl ((cO.same k).trans Z)
   .cases f
  .cases n
 .cases e
end
theorem dH.ins {K:Z5}{F:Fm}{H c:Hp}{d:L2.St}{f:Rho}(so:StOk K F H d f):∀{a:List V} {b:List GD},b.all okIn=Z7->dH K F H c a b->Reps K c (Bin F) a (b.map (·.2))
 |a,[],_,r=>r
 |a,x::b,h,r=>by rw[c8]at h;rw[bq]at h;obtain⟨v,t,e,g,q⟩:=r;exact⟨v,t,e,Ag so h.1 g,dH.ins so h.2 q⟩
theorem StOk.frz {K:Z5}{F:Fm}{H:Hp}{s:L2.St}{f:Rho}(so:StOk K F H s f)(j:Nat):StOk K (F.drop j) H s (f.set j (xJ (f.getD j Z8))):=by
 refine⟨so.ext,so.aK,λa i e=>?_,by rw[cz];exact so.len,λi g d e=>?_⟩
 .have x:F.O a=Z9 i:=by
   have e:(if F.O a=Z9 j then Z8 else F.O a)=Z9 i:=e;split at e
   .cases e
   .exact e
  exact so.own a i x
 .by_cases l:j=i
  .subst l;rw[ga]at e;simp only[if_true]at e;split at e
   .rename_i hl;cases t:f[j]? with
    |none=>exact absurd hl (by grind)
    |some sl=>
     have k:xJ sl=Z9 (g,d):=by
      have:f.getD j Z8=sl:=by rw[av,t];rfl
      rw[this]at e;exact xl e
     cases sl with
     |none=>cases k
     |some gd=>
      obtain⟨u,y⟩:=gd;obtain⟨v,m,c⟩:=so.sl j u y t;refine⟨v,m,?_⟩;cases u with
      |fr=>
       cases k;obtain⟨p,rfl,o,h⟩:=c;obtain⟨o1,o2,_⟩:=so.own p j o;have w:Bin (F.drop j) (Z9 p):=⟨by show(if F.O p=Z9 j then Z8 else F.O p)=Z8;rw[xh o],o1,o2⟩;rcases h with⟨n,A,rfl,q,r⟩|⟨n,A,rfl,q,r⟩
       .exact⟨p,n,rfl,.inl ⟨q,w⟩,r.weak λ_ b=>b.drop⟩
       .exact⟨p,n,rfl,q,w,REs.same (λ_ _ e=>e) (λ_ b=>b.drop) r⟩
      |od=>cases k;exact c
      |al=>cases k;exact c
      |nu=>cases k;exact Rep.weak (λ_ b=>b.drop) c
   .cases e
  .rw[cj l]at e;obtain⟨v,m,c⟩:=so.sl i g d e;exact⟨v,m,c.drop λz=>l z.symm⟩
section
variable {K:Z5}{H:Hp}{B B':Ad->Prop}
end
section
variable {K:Z5}{H:Hp}{Bz:Ad->Prop}{p:Addr}{zs:List D}{vz:List V}
end
section
variable {X:Cx}{tg a b c e:Expr}{es:List Expr}{fa fb fc:Rho->Res GD}{pos:Pos}{st:Stmt}{rest A Bs:List Stmt}{fs gs:Rho->Res Out}
theorem Ds (k c:Key):eqK (kD c) (kD k)=decide (c=k):=by
 cases c<;>cases k
 .rename_i a b;show(a==b)=_;rw[l9,decide_eq_decide];exact⟨λh=>by rw[h],λh=>Sum.inl.inj h⟩
 .rfl
 .rfl
 .rename_i a b;show decide (a=b)=_;rw[decide_eq_decide];exact⟨λh=>by rw[h],λh=>Sum.inr.inj h⟩
theorem REs.any {K:Z5}(k:Key):∀{kvs:List (Key×V)} {es:bA},REs K H B kvs es->(es.any λe=>eqK e.1 (kD k))=kvs.any λa=>decide (a.1=k)
 |kvs,[],r=>by have e:kvs=[]:=r;subst e;rfl
 |kvs,(kd,d)::es,r=>by obtain⟨c,v,t,e,b,_,_,q⟩:=r;subst e b;rw[jo,jo,q.any k,Ds]
theorem REs.mD {K:Z5}(k:Key)(h:Rep K H B v d):∀{kvs:List (Key×V)} {es:bA},REs K H B kvs es->REs K H B (kvs.map λa=>if a.1=k then(a.1,v)else a) (es.map λe=>if eqK e.1 (kD k)then(e.1,d)else e)
 |kvs,[],r=>by have e:kvs=[]:=r;subst e;exact rfl
 |kvs,(kd,d0)::es,r=>by
  obtain⟨b,f,t,e,g,ok,h0,q⟩:=r;subst e g;rw[aw,aw];have c:=q.mD k h;by_cases z:b=k
  .subst z;rw[xh rfl,xh (by rw[Ds];simp)];exact⟨b,v,_,rfl,rfl,ok,h,c⟩
  .rw[xk z,xk (by rw[Ds];simpa using z)];exact⟨b,f,_,rfl,rfl,ok,h0,c⟩
theorem REs.app {K:Z5}(ok:keyOk k)(h:Rep K H B v d):∀{kvs:List (Key×V)} {es:bA},REs K H B kvs es->REs K H B (kvs++[(k,v)]) (es++[(kD k,d)])
 |kvs,[],r=>by have e:kvs=[]:=r;subst e;exact⟨k,v,[],rfl,rfl,ok,h,rfl⟩
 |kvs,(kd,d0)::es,r=>by obtain⟨b,c,t,e,f,a,h0,q⟩:=r;subst e f;exact⟨b,c,_,rfl,rfl,a,h0,q.app ok h⟩
theorem REs.put {K:Z5}(ok:keyOk k)(h:Rep K H B v d){es:bA}(r:REs K H B kvs es):REs K H B (putK kvs k v) (dput es (kD k) d):=by
 unfold putK dput;rw[r.any k];split
 .exact r.mD k h
 .exact r.app ok h
def xX (td ty tv:TE):TS:=λD σ H=>tv σ H λv H1=>td σ H1 λx H2=>ty σ H2 λy H3=>(∃a H4,x=.ref a/\DPut H3 a y v H4/\D.nx σ H4)\/Cj x y v H3 λH4=>D.nx σ H4
theorem IG (hu:X.A.units+1<cLine)(p:PE X o q)(t:PE X i ty)(w:PE X value tv)(hs:ma value (Z9 (.Subscript o i d)) pos.line X.env=pure Z6):PS X (.Assign [.Subscript o i d] value pos) (xX q ty tv):=by
 intro b s c H D I h;refine wpAny_Assign_Subscript (aN (w b s c H _ I h) λr z ⟨v,B,C,k,E⟩=>aN (p b z c B _ C E) λu F ⟨x,G,J,l,K⟩=>aN (t b F c G _ J K) λL M ⟨y,N,m,n,e⟩=>?_) hs;rcases e with⟨a,f,ex,g,e⟩|e
 .subst ex;obtain rfl:u=ZU a:=l;exact zc3 hu m g n k λO j=>⟨c,f,j,e⟩
 .exact aN (set_list b M c N x y v u L r _ m l n k e) λ_ O ⟨f,j,P⟩=>⟨c,f,j,P⟩
def Dt (i:Nat)(fv fk:Rho->Res GD):Rho->Res Out:=λρ=>fv ρ>>=λy=>fk ρ>>=λx=>match ρ[i]? with
 |some (Z9 (.fr,.dict es))=>if jL x.2&&okIn y&&decide (es.length<aQ)then .ok (.nx ((ρ.set i (Z9 (.fr,.dict (dput es x.2 y.2)))).map gC))else .no
 |some (Z9 (.fr,.list xs))=>(match x.2 with
  |.int j=>if okIn y then(match iB xs.length j with|some n=>.ok (.nx ((ρ.set i (Z9 (.fr,.list (xs.set n y.2)))).map gC))|none=>.no)else .no
  |_=>.no)
 |_=>.no
theorem zvo (hu:X.A.units+64<cLine)(hN:X.N[i]?=Z9 x)(Y:Vis X.env.scope x)(hd:YC x)(J:(x==("__classdict__":Str))=Z6)(hs:z25 value=Z6)(hk:PE X Z (tD X.K fk))(L:PE X value (tD X.K fv)):
  PS X (.Assign [.Subscript (.Name x p) Z T] value pos) (tDS X.K (Dt i fv fk)):=by
 refine PS.imp (IG (by omega) (nW hN Y hd J) hk L (uM hs _ _ _)) λD U H zz=>?_;obtain⟨M,F,out,so,e,q⟩:=zz;obtain⟨y,e1,e⟩:=Res.aB e;obtain⟨P,V,e⟩:=Res.aB e;refine⟨M,F,y,so,e1,λv H1 Q rv=>?_⟩;have c:=so.same Q;split at e
 .rename_i es hr;split at e
  case isFalse=>cases e
  rename_i B;cases e;rw[bq,bq,decide_eq_true_eq]at B;obtain⟨f,E,l,h⟩:=Dq c hr;rcases h with⟨_,_,m,_⟩|⟨s,uX,m,R,r⟩
  .cases m
  .cases m;refine⟨_,E,M,F,P,c,V,λw C d g=>.inl ?_⟩;obtain⟨k,ek,rfl,ok⟩:=xT B.1.1 g;have G:=d _ _ R;refine⟨f,_,rfl,DPut.k G (r.length▸cf B.2 (jT (af _))),?_⟩
   have hk:∀a o,C a=Z9 o->(Bin F (Z9 a)\/Fix o)->upd C f (.dK (putK s k v)) a=Z9 o:=λa o e b=>by
    have t:a≠f:=by
     intro z;subst z;rcases b with b|b
     .have I:F.O a=none:=b.1;rw[l]at I;cases I
     .rw[G]at e;cases e;exact b
    rw[aA t];exact e
   have r':REs X.K (upd C f (.dK (putK s k v))) (Bin F) (putK s k v) (dput es P.2 y.2):=by rw[ek];exact REs.keep hk (λ_ z=>z) _ (REs.put ok (Ag so B.1.2 (rv.same d λ_ z=>z)) (r.same d λ_ z=>z))
   obtain⟨u,S⟩:=(c.same d).mutate l E (.inr ⟨_,rfl⟩) ⟨f,rfl,l,.inr ⟨_,_,rfl,aO,r'⟩⟩;exact q U _ F u Run.refl ((cO.same (Q.trans d)).trans S)
 .rename_i xs hr;split at e
  case h_2=>cases e
  rename_i j hj;split at e
  case isFalse=>cases e
  rename_i B;split at e
  case h_2=>cases e
  rename_i n hn;cases e;obtain⟨f,E,l,h⟩:=Dq c hr;rcases h with⟨W,ds,m,R,r⟩|⟨_,_,m,_⟩
  .cases m;refine⟨_,E,M,F,P,c,V,λw C d g=>.inr ?_⟩;rw[hj]at g;subst g;have G:=d _ _ R;refine⟨f,W,j,n,rfl,rfl,G,by rw[r.length];exact hn,?_⟩
   have hk:∀a o,C a=Z9 o->(Bin F (Z9 a)\/Fix o)->upd C f (.lst (W.set n v)) a=Z9 o:=λa o e b=>by
    have t:a≠f:=by
     intro z;subst z;rcases b with b|b
     .have I:F.O a=none:=b.1;rw[l]at I;cases I
     .rw[G]at e;cases e;exact b
    rw[aA t];exact e
   obtain⟨u,S⟩:=(c.same d).mutate l E (.inl ⟨_,rfl⟩) ⟨f,rfl,l,.inl ⟨_,_,rfl,aO,(Reps.keep hk (λ_ z=>z) _ (Reps.set (Ag so B (rv.same d λ_ z=>z)) n (r.same d λ_ z=>z)))⟩⟩;exact q U _ F u Run.refl ((cO.same (Q.trans d)).trans S)
  .cases m
 .cases e
def tDF (K:Z5)(f:Rho->Res (G×List D×Rho)):TI:=λσ H R=>∃ρ F w,StOk K F H σ ρ/\f ρ=.ok w/\∀J B H' F',Same H H'->Run F F'->cO F H F' H'->StOk K F' H' σ w.2.2->(∀a,B (Z9 a)->F'.O a=Z8)->(∀a,B a->BI F' w.1 a)->Walk K J B H' w.2.1->R J H'
theorem Du {K:Z5}(so:StOk K F H i k){a:Addr}(f:g≠.al)(h:BG F H g (Z9 a)):F.O a=none:=by
 cases d:F.O a with
 |none=>rfl
 |some j=>
  obtain⟨h0,_,b⟩:=so.own a j d;cases g with
  |fr=>have c:=h;rcases b with⟨e,b⟩|⟨e,b⟩<;>rw[c]at b<;>cases b
  |od=>exact absurd h0 h.1
  |al=>exact absurd rfl f
  |nu=>
   rcases h with h|h
   .have c:H a=none:=h;rcases b with⟨e,b⟩|⟨e,b⟩<;>rw[c]at b<;>cases b
   .have c:F.O a=none:=h.1;rw[c]at d;cases d
theorem IH (h:PI X i e (tDW X.K j)):PI X i e (tDF X.K λc=>j c>>=λw=>if w.1==.al then .no else .ok (w.1,w.2,c)):=
 PI.imp h λo H R ⟨c,F,w,so,e,q⟩=>by
  obtain⟨k,l,e⟩:=Res.aB e;refine⟨c,F,k,so,l,λJ B m d g n=>?_⟩;split at e
  .cases e
  .rename_i f;cases e;exact q J B m F d Run.refl (cO.same d) (so.same d) (λa b=>Du so (λz=>f (by rw[z];rfl)) (g _ b).1) (λa b=>BI.of so.aK (g a b).1) n
theorem StOk.giveUp {K:Z5}(so:StOk K F H σ ρ)(e:ρ[i]?=Z9 (Z9 (.fr,d))):StOk K (F.drop i) H σ (ρ.set i (Z9 (.al,d))):=by
 obtain⟨v,h1,h2⟩:=so.sl i .fr d e;have:=so.lZ (i:=i) (x:=(.al,d)) (h2.rep so.iD)
 have es:σ.set i (Z9 v)=σ:=by
  apply uu;intro j;by_cases hj:i=j
  .subst hj;rw[ga];simp only[if_true,(br.mp h1).1];exact h1.symm
  .rw[cj hj]
 rw[es]at this;exact this
theorem Qy (hN:X.N[i]?=Z9 x)(o:Vis X.env.scope x)(hd:YC x)(h:(x==("__classdict__":Str))=Z6):PI X T (.Name x pos) (tDF X.K (zZ i)):=by
 rintro c s t H R I ⟨U,F,w,so,e,q⟩
 unfold zZ at e;split at e
 .rename_i d hr;obtain⟨W,z,e⟩:=Res.aB e;cases e;obtain⟨v,A,C⟩:=so.sl i .fr d hr;refine aN (nW hN o hd h c s t H (λu f=>u=v/\f=H) I ⟨v,A,rfl,rfl⟩) λu Y D=>?_;obtain⟨y,f,E,G,g,L⟩:=D;subst g L
  let B:Ad->Prop:=λa=>match a with|some a=>(F.drop i).O a=Z8/\F.V a|none=>False
  have M:Rep X.K f B y d:=by
   obtain⟨p,g,l,P⟩:=C
   have m:∀a,Bin F a->B a:=λa b=>by
    cases a with
    |none=>exact b
    |some a=>exact⟨Fm.bL b.1,b.2.2⟩
   have n:B (Z9 p):=⟨by show(if F.O p=Z9 i then Z8 else F.O p)=Z8;rw[xh l],so.iD p i l⟩;rcases P with⟨j,Q,rfl,k,r⟩|⟨j,Q,rfl,k,r⟩
   .exact⟨p,j,g,.inl ⟨k,n⟩,r.weak m⟩
   .exact⟨p,j,g,k,n,REs.same (λ_ _ e=>e) m r⟩
  refine z3d E G M z λJ S=>q J B f (F.drop i) (Same.refl _) (Run.of rfl rfl rfl) (cO.drop (Same.refl _)) (so.giveUp hr) (λa b=>b.1) (λa b=>?_) S;cases a with
  |none=>exact b.elim
  |some a=>exact b.2
 .cases e
def Fm.mE (F:Fm)(H:Hp):Fm:={F with O:=λa=>match H a with|some (.dK _)=>F.O a|_=>Z8}
theorem Fm.gT {F:Fm}{a:Addr}(h:F.O a=Z8):(F.mE H).O a=none:=by
 unfold Fm.mE
 dsimp only
 split<;>first|exact h|rfl
theorem StOk.mE {K:Z5}(so:StOk K F H q l):StOk K (F.mE H) H q (l.map CL) where
 ext:=so.ext
 aK:=so.aK
 own:=λa i e=>by
  have c:F.O a=Z9 i:=by
   unfold Fm.mE at e
   dsimp only at e
   split at e
   .exact e
   .cases e
  exact so.own a i c
 len:=by rw[ae];exact so.len
 sl:=λi g d e=>by
  rw[ba]at e;cases h:l[i]? with
  |none=>rw[h]at e;cases e
  |some o=>
   rw[h]at e;have c:CL o=Z9 (g,d):=by simpa using e
   cases o with
   |none=>cases c
   |some gd=>
    obtain⟨m,d0⟩:=gd;obtain⟨v,s,f⟩:=so.sl i m d0 h;refine⟨v,s,?_⟩
    have n:∀a,Bin F a->Bin (F.mE H) a:=λa b=>by
     cases a with
     |none=>exact b
     |some a=>exact⟨Fm.gT b.1,b.2.1,b.2.2⟩
    cases m with
    |od=>cases c;exact f
    |al=>cases c;exact f
    |nu=>cases c;exact Rep.weak n f
    |fr=>
     obtain⟨p,ev,t,u⟩:=id f;rcases u with⟨y,w,rfl,j,r⟩|⟨kvs,es,rfl,j,r⟩
     .have k:Z9 (G.al,Z0 w)=Z9 (g,d):=c;cases k;have x:=Slot.rep so.iD f;exact x
     .have k:Z9 (G.fr,PyData.dict es)=Z9 (g,d):=c;cases k;refine⟨p,ev,?_,.inr ⟨kvs,es,rfl,j,REs.same (λ_ _ z=>z) n r⟩⟩;unfold Fm.mE
      dsimp only
      rw[j];exact t
theorem Dv (A:PE X e (tD X.K fa)):PI X tg e (tDF X.K λk=>fa k>>=λx=>lV x k):=by
 rintro j s C H R I ⟨k,F,w,so,c,q⟩
 obtain⟨⟨g,d⟩,D,c⟩:=Res.aB c;unfold lV at c
 dsimp only at c
 split at c
 .rename_i l;split at c
  .rename_i E;cases c;refine aN (A j s C H (λv f=>Same H f/\Rep X.K f (BG F H g) v (.list l)) I ⟨k,F,_,so,D,λv f u m=>⟨u,m⟩⟩) λv u G=>?_;obtain⟨y,f,L,M,i,m⟩:=G
   let B:Ad->Prop:=λa=>match a with|some a=>(F.mE f).O a=Z8/\F.V a|none=>F.z
   have t:Rep X.K f B y (.list l):=by
    obtain⟨p,N,P,h,r⟩:=m;refine⟨p,N,P,?_,Reps.aT l E r⟩;rcases h with⟨h,b⟩|⟨h,b⟩
    .refine .inl ⟨h,?_,(BG.aK so.aK b:bM F (Z9 p))⟩;unfold Fm.mE
     dsimp only
     rw[h]
    .exact .inr ⟨h,(BG.aK so.aK b:bM F Z8)⟩
   refine z3d L M t rfl λJ Q=>q J B f (F.mE f) i (Run.of rfl rfl rfl) (λa o e n=>⟨i a o e,Fm.gT n⟩) ((so.same i).mE) (λa b=>b.1) (λa b=>?_) Q;cases a with
   |none=>exact b
   |some a=>exact b.2
  .cases c
 .cases c
theorem PI.II {k:Rho->Bool}(hf:PI X tg e (tDF X.K f))(hg:PI X tg e (tDF X.K g)):PI X tg e (tDF X.K λρ=>if k ρ then f ρ else g ρ):=by
 rintro pins s σ H R I ⟨ρ,F,w,so,e,q⟩
 dsimp only at e
 cases hk:k ρ with
 |true=>exact hf pins s σ H R I ⟨ρ,F,w,so,by rw[xh hk]at e;exact e,q⟩
 |false=>exact hg pins s σ H R I ⟨ρ,F,w,so,by rw[xk (hk▸gc)]at e;exact e,q⟩
theorem zxs (hp:iz (model X.prog X.w) X.A X.env X.xe)(hc:X.calm=Z7)(L:PI X tg iter (tDF X.K fw))(hg:PG X tg (tDG X.K t))(hb:PSs X M (tDS X.K fs))(hs:∀x,gx iter X.env x=pure x):
  PS X (.For tg iter M [] pos) (tDS X.K λT=>fw T>>=λw=>dB (λx E=>eD t (gJ x w.1,x) E>>=λc=>fs c) w.2.1 w.2.2):=
 PS.imp (z47 hp hc L hg hb hs) λD σ H ⟨T,F,U,so,e,q⟩=>by
  obtain⟨w,e1,e⟩:=Res.aB e;refine⟨T,F,w,so,e1,λJ B Y h s1 r1 f1 N Qz QA wk=>?_⟩;have q1:=q.back r1 f1;generalize hf:(λx E=>eD t (gJ x w.1,x) E>>=λc=>fs c)=f at e
  have kp:∀{k:Fm} {l:Hp},cO h Y k l->Kp B Y l:=λ{k l} fr a o e b=>by
   have hO:h.O a=none:=by
    rcases b with b|b
    .exact Qz a b
    .cases r:h.O a with
     |none=>rfl
     |some j=>obtain⟨_,_,P⟩:=N.own a j r;rcases P with⟨xs,P⟩|⟨xs,P⟩<;>rw[e]at P<;>cases P<;>exact b.elim
   exact(fr a o e hO).1
  let W:Nat->Nat->L2.St->Hp->Prop:=λi m G l=>m=w.2.1.length-i/\i<=w.2.1.length/\∃c k,StOk X.K k l G c/\Run h k/\cO h Y k l/\dB f (w.2.1.drop i) c=.ok U
  refine⟨W,⟨_,rfl,be _,w.2.2,h,N,Run.refl,cO.refl,e⟩,?_⟩
  rintro i m G l ⟨rfl,QB,c,k,Q,I,R,r⟩
  by_cases s:i<w.2.1.length
  .refine .inr ⟨wk.go l (kp R) i s,W (i+1) (w.2.1.length-(i+1)),λσ' H' p=>⟨_,by omega,p⟩,λx H3 y=>?_⟩;obtain⟨s3,d,hd,rx⟩:=wk.fJ l (kp R) i x H3 s y
   have QC:w.2.1.drop i=d::w.2.1.drop (i+1):=by
    rw[om s];have:w.2.1[i]=d:=by rw[aq s]at hd;simp_all
    rw[this]
   rw[QC]at r;simp only[dB]at r
   have Dj:Rep X.K H3 (BI k (gJ d w.1)) x d:=by
    have QD:∀g a,BI h g a->BI k g a:=λg a b=>by cases g<;>cases a<;>first|exact b|(have C:h.V _:=b;rw[<-I.2.1]at C;exact C)|(have C:h.z:=b;rw[<-I.2.2]at C;exact C)|(have C:h.H0 _≠Z8/\h.V _:=b;exact⟨λz=>C.1 (none_of I.1 z),by rw[I.2.1];exact C.2⟩)
    unfold gJ;by_cases L:aM d=Z7
    .rw[xh L];exact Rep.aT d L rx
    .rw[xk L];exact rx.weak λa b=>QD _ _ (QA a b)
   cases e3:f d c with
   |no=>rw[e3]at r;cases r
   |ok o1=>
    obtain⟨S,e4,e5⟩:=Res.aB (by rw[<-e3,<-hf]);rw[e3]at r;refine⟨c,k,(gJ d w.1,d),S,Q.same s3,Dj,e4,λjK F4 Af u=>⟨S,F4,o1,Af,e5,?_⟩⟩;have r4:=I.trans (Run.of u.h0 u.v u.z);have f4:=R.trans λa o e n=>⟨s3 a o e,u.o a n⟩;cases o1 with
    |nx QE=>exact λσ' H' F' QF r' f'=>⟨rfl,s,QE,F',QF,r4.trans r',f4.trans f',r⟩
    |rt g d=>cases r;exact(q1.back r4 f4:xW X.K F4 H3 D (.rt g d))
  .have xY:i=w.2.1.length:=by omega
   subst xY;rw[List.drop_length]at r;cases r;exact .inl ⟨wk.stop l (kp R),q1 G l k Q I R⟩
end
def rAgg (K:Z5)(f:String):List V->Hp->VK->Prop:=λxs H Q=>∃B x dx l ys d,xs=[x]/\Rep K H B x dx/\z58 dx=.ok (l,ys)/\aggD f l ys=.ok d/\∀w H',Same H H'->Rep K H' (λa=>nw H a\/(imms ys=Z6/\B a)) w d->Q w H'
theorem pY {K:Z5}(r:Rep K H B x dx)(e:z58 dx=.ok (l,c)):∃a b,x=.ref a/\(if l then SqL K H a b else bF K H a b)/\Reps K H B b c:=by
 cases dx<;>try (cases e;done)
 .cases e;obtain⟨a,b,rfl,h,q⟩:=kQ r;exact⟨a,b,rfl,h,q⟩
 .cases e;obtain⟨a,b,rfl,h,q⟩:=r;exact⟨a,b,rfl,h,q⟩
theorem Reps.mF {K:Z5}(r:Reps K H B c b):Reps K H (λa=>nw H a\/(imms b=Z6/\B a)) c b:=by
 cases d:imms b with
 |true=>exact Reps.aT b d r
 |false=>exact r.weak λ_ z=>.inr ⟨rfl,z⟩
section
variable {X:Cx}{e:Expr}{fa:Rho->Res GD}{pos:Pos}
theorem zjv (so:StOk X.K F H l j)(e:((fa j>>=fun x=>z58 x.2>>=fun p=>Res.ok (x.1,p))>>=fun w=>aggD f w.2.1 w.2.2>>=fun d=>Res.ok ((gJ d (if imms w.2.2 then .fr else agG w.1),d):GD))=.ok z)(q:∀v g,Same H g->Rep X.K g (BG F H z.1) v z.2->Q v g):
  jF (rAgg X.K f) (lP (tD X.K fa) fC) l H Q:=by
 obtain⟨w,b,e⟩:=Res.aB e;obtain⟨x,m,b⟩:=Res.aB b;obtain⟨p,n,b⟩:=Res.aB b;cases b;obtain⟨d,o,e⟩:=Res.aB e;cases e;refine⟨j,F,x,so,m,λv A c r=>⟨_,v,x.2,p.1,p.2,d,rfl,r,n,o,λs t u i=>q s t (c.trans u) (pX i λa h=>?_)⟩⟩;cases y:imms p.2 with
 |true=>
  rcases h with h|⟨h,_⟩
  .exact nw.back c h
  .rw[y]at h;cases h
 |false=>
  have al:bM F a:=by
   rcases h with h|⟨_,h⟩
   .exact(nw.back c h).aK so.aK
   .exact h.aK so.aK
  cases k:x.1 with
  |fr=>
   rcases h with h|⟨_,h⟩
   .exact nw.back c h
   .rw[k]at h;exact h
  |od=>exact al
  |al=>exact al
  |nu=>
   rcases h with h|⟨_,h⟩
   .exact .inl (nw.back c h)
   .rw[k]at h;exact h
theorem QG:CallR X (.type "list") (rAgg X.K "list"):=by
 refine CallR.imp OR λi H Q h=>?_;obtain⟨B,x,dx,l,j,d,rfl,r,e,f,q⟩:=h;obtain⟨a,b,rfl,h,rs⟩:=pY r e;cases f
 have g:SqL X.K H a b\/bF X.K H a b:=by
  cases l with
  |true=>exact .inl h
  |false=>exact .inr h
 refine⟨a,b,rfl,g,λp c=>q _ _ (Same.upd c) (oT c rs.mF (λ_ z=>z) (.inl c))⟩
theorem IJ:CallR X (.type "tuple") (rAgg X.K "tuple"):=by
 refine CallR.imp OS λg H Q h=>?_;obtain⟨B,x,dx,l,i,d,rfl,r,e,f,q⟩:=h;obtain⟨a,b,rfl,h,rs⟩:=pY r e;cases f;refine⟨a,b,rfl,?_⟩;cases l with
 |true=>exact .inl ⟨h,λp c=>q _ _ (Same.upd c) (z8 c rs.mF λ_ z=>z)⟩
 |false=>exact .inr ⟨h,q _ H (Same.refl H) ⟨a,b,rfl,h,rs.mF⟩⟩
theorem Dx {K:Z5}:∀{a:List D} {bs:List Bool} {b:List V},allB a=Z9 bs->Reps K H B b a->b=bs.map V.bl
 | [],bs,b,e,r=>by cases e;exact r
 |d::a,bs,b,e,r=>by
  cases d<;>try (cases e;done)
  simp only[allB]at e;cases c:allB a with
  |none=>rw[c]at e;cases e
  |some f=>rw[c]at e;cases e;obtain⟨v,t,rfl,g,h⟩:=r;rw[g,Dx c h];rfl
theorem IK {K:Z5}:∀{a:List D} {n:Int} {c:List V},fW a=Z9 n->Reps K H B c a->∃ns:List Int,c=ns.map V.int/\ns.sum=n
 | [],n,c,e,r=>by cases e;exact⟨[],r,rfl⟩
 |d::a,n,c,e,r=>by
  cases d<;>try (cases e;done)
  rename_i b;change(fW a).map (b+ ·)=_ at e;cases f:fW a with
  |none=>rw[f]at e;cases e
  |some m=>rw[f]at e;cases e;obtain⟨v,t,rfl,g,h⟩:=r;obtain⟨ns,i,j⟩:=IK f h;exact⟨b::ns,by rw[g,i];rfl,by rw[List.sum_cons,j]⟩
theorem QH (f:X.calm=Z7):CallR X (.builtin "all") (rAgg X.K "all"):=by
 refine CallR.imp (Pb f) λj H Q h=>?_;obtain⟨B,x,k,l,g,d,rfl,r,e,b,q⟩:=h;obtain⟨a,m,rfl,h,i⟩:=pY r e;simp only[aggD,show("all":String)≠"list" by decide,show("all":String)≠"tuple" by decide,show("all":String)≠"sorted" by decide,show("all":String)≠"sum" by decide,if_true,if_false]at b;cases l with
 |false=>cases b
 |true=>
  cases c:allB g with
  |none=>rw[c]at b;cases b
  |some bs=>rw[c]at b;cases b;have ev:=Dx c i;subst ev;exact⟨a,bs,rfl,h,q _ H (Same.refl H) rfl⟩
theorem QI (e:X.calm=Z7):CallR X (.builtin "sum") (λa H Q=>∃(p:Addr) (ns:List Int),a=[.ref p]/\SqL X.K H p (ns.map V.int)/\Q (.int ns.sum) H):=by
 rintro c s h H a i Q I r ⟨p,ns,rfl,f,q⟩
 obtain⟨u,rfl,rfl⟩:=vals1 r;obtain⟨b,rv,pl,j⟩:=I.list f;have d:su b.toArray.toList ns:=intsAre_of rv;have hl:=pl.isList;obtain⟨a,ex⟩:=d.allInts.items;have hn:=d.numsOf;rw[ex]at hl hn;refine sum_intListG (I.ok.hd e) hl λk l g hk=>⟨.int ns.sum,H,I.kept hk,⟨g,?_⟩,q⟩;rw[preSum_eq,gn (by simp)];rw[nums_intItems]at hn;rw[hn]
theorem QJ (f:X.calm=Z7):CallR X (.builtin "sum") (rAgg X.K "sum"):=by
 refine CallR.imp (QI f) λj H Q h=>?_;obtain⟨B,x,k,l,g,d,rfl,r,e,b,q⟩:=h;obtain⟨a,m,rfl,h,i⟩:=pY r e;simp only[aggD,show("sum":String)≠"list" by decide,show("sum":String)≠"tuple" by decide,show("sum":String)≠"sorted" by decide,if_true,if_false]at b;cases l with
 |false=>cases b
 |true=>
  cases c:fW g with
  |none=>rw[c]at b;cases b
  |some n=>rw[c]at b;cases b;obtain⟨ns,ev,en⟩:=IK c i;subst ev en;exact⟨a,ns,rfl,h,q _ H (Same.refl H) rfl⟩
theorem zin (hc:CallR X (.type f) (rAgg X.K f))(hm:X.mg x=Z8)(c:df x=Z9 (.type f))(hs:isStar y=Z6)(g:PE X y (tD X.K fa))(h:Gl X x)(hn:x≠"__name__")(a:YC x):
  PE X (.Call (.Name x p) [y] [] pos) (tD X.K λb=>(fa b>>=λx=>z58 x.2>>=λp=>Res.ok (x.1,p))>>=λw=>aggD f w.2.1 w.2.2>>=λd=>.ok (gJ d (if imms w.2.2 then .fr else agG w.1),d)):=
 PE.imp (zW hc hm c (cZ g iR hs) (by simp[hs]) h hn a) λi H Q ⟨b,F,z,so,e,q⟩=>zjv so e q
theorem za0 (hc:CallR X (.builtin f) (rAgg X.K f))(hm:X.mg x=Z8)(c:df x=Z9 (.builtin f))(hs:isStar y=Z6)(g:PE X y (tD X.K fa))(h:Gl X x)(hn:x≠"__name__")(a:YC x):
  PE X (.Call (.Name x p) [y] [] pos) (tD X.K λb=>(fa b>>=λx=>z58 x.2>>=λp=>Res.ok (x.1,p))>>=λw=>aggD f w.2.1 w.2.2>>=λd=>.ok (gJ d (if imms w.2.2 then .fr else agG w.1),d)):=
 PE.imp (uL hc hm c (cZ g iR hs) (by simp[hs]) h hn a) λi H Q ⟨b,F,z,so,e,q⟩=>zjv so e q
end
structure NoKeys (T id:String):Prop where
 own:PySem.Slot T "__getattribute__" id
 entry:entryFor table id=some Builtin.«object.__getattribute__»
 two:∀a b:Value,argsOk id {pos:=[a,b]}
 rest:wu (.type T) "__getattr__"=pure Z8
 miss:∀(a:Addr) (xs:Array Value) (k:Nat) (sl:Array (Option Value)) (u:Tok),Meets (Builtin.«object.__getattribute__» {pos:=[.ref a,.str "keys" u]}) λA R s=>s.heap.get? a=some {cls:=.type T,data:=.seq xs k,slots:=sl}/\raisesAttr (.ref a) "keys" A R s
theorem QK:NoKeys "list" "list.__getattribute__" where
 own:=F.slot_list_getattribute
 entry:=am_entry_list_getattribute
 two:=F.args_list_getattribute_2
 rest:=am_list_getattr_none
 miss:=λa b k sl u=>meets_getattribute_miss_list a b k sl "keys" u (by rw[typeLookup_type];kernel_rfl) (by decide) (by size_fits)
theorem QL:NoKeys "tuple" "tuple.__getattribute__" where
 own:=F.slot_tuple_getattribute
 entry:=am_entry_tuple_getattribute
 two:=F.args_tuple_getattribute_2
 rest:=am_tuple_getattr_none
 miss:=λa b k sl u=>meets_getattribute_miss_tuple a b k sl "keys" u (by rw[typeLookup_type];kernel_rfl) dc (by size_fits)
theorem NoKeys.ask {T id:String}(N:NoKeys T id){prog:cw}{w:World}{A:gk}{E:Value->ay->Prop}{s:ay}{a:Addr}{o:Obj}{i:Array Value}{k:Nat}{Q:Option Value->ay->Prop}
  (j:s.heap.get? a=Z9 o) (hc:o.cls=.type T) (d:o.data=.seq i k) (hd:o.dict=Z8) (m:A.handled=Z8)
  (h:∀l n e,t7 s.heap l e "AttributeError"->Q Z8 {s with heap:=l,toks:=n}):
  wpAny (model prog w) A (xb (.ref a) "keys") Q E s:=by
 cases o;cases hc;cases d;cases hd;cases s;rename_i b heap f c toks os;have ty:∀t,(⟨heap,f,c,t,os⟩:ay).TypeIs (.ref a) T:=λt=>⟨_,j,rfl⟩;have p:=sub_AttributeError;have n1:=N.own.lookup;have n2:=N.own.bind (.ref a);have n3:=N.rest
 delta xb getAttrBy? getAttrBy
 repeat' (first|assumption|exact ty _|(apply qm N.own (ty _) N.entry (N.two _ _) (N.miss a i k b _))|wp_step)
 refine⟨j,m,λq r ex nx=>?_⟩;obtain⟨u,v,there⟩:=nx.there;have g:=λt=>h _ t _ nx.of
 dsimp only[wants]
 delta getattributeRaised
 repeat' (first|assumption|apply g|wp_step)
theorem QM
 (d:s.heap.get? a=Z9 o) (hc:o.cls=.type "list") (b:o.data=.seq i k) (hd:o.dict=Z8) (f:A.handled=Z8) (h:∀c g e,t7 s.heap c e "AttributeError"->Q Z8 {s with heap:=c,toks:=g}):
 wpAny (model prog w) A (xb (.ref a) "keys") Q E s:=QK.ask d hc b hd f h
theorem QN
 (d:s.heap.get? a=Z9 o) (hc:o.cls=.type "tuple") (b:o.data=.seq i k) (hd:o.dict=Z8) (f:A.handled=Z8) (h:∀c g e,t7 s.heap c e "AttributeError"->Q Z8 {s with heap:=c,toks:=g}):
 wpAny (model prog w) A (xb (.ref a) "keys") Q E s:=QL.ask d hc b hd f h
abbrev uY (X:Cx)(A:gk)(E:Value->ay->Prop):Cx:={X with A:=A,xe:=E}
theorem _root_.L2.Inv.uY (I:Inv X a b H s)(hd:A.handled=X.A.handled)(hf:A.frames=X.A.frames):Inv (uY X A E) a b H s:=⟨⟨I.ok.mod,I.ok.kind,I.ok.glob,I.ok.blt,I.ok.above,I.ok.inj,I.ok.has,I.ok.uC,λz=>hd.trans (I.ok.hd z),hf.trans I.ok.frames,I.ok.wD,I.ok.wF,I.ok.bs,I.ok.kK,I.ok.jC,I.ok.jD,I.ok.eB,I.ok.qW,I.ok.BJ⟩,I.os,I.bare,I.base,I.loc,I.cell,I.free,I.bQ,I.pin,I.hok,I.len,I.fx⟩
theorem _root_.L2.Inv.Dy (ok:X.Ok)(I:Inv (uY X A E) a b H s):Inv X a b H s:=⟨ok,I.os,I.bare,I.base,I.loc,I.cell,I.free,I.bQ,I.pin,I.hok,I.len,I.fx⟩
namespace F
theorem entry_dict_loop:entryFor table "dict.update.loop"=some Builtin.«dict.update.loop»:=entryFor_of_tree (by kernel_rfl)
theorem aR:plainId "dict.update.loop"=true:=by decide+kernel
end F
section
variable {X:Cx}{pins:List (Addr×Obj)}{σ:L2.St}
theorem QO (p:IsTup s.heap a b.toArray)(h:Q b s):wpAny (model prog w) A (Builtin.Dict.pairItems (.ref a)) Q E s:=by have c:=p.typeIs;obtain⟨o,d,hc,n,hd⟩:=p;apply ac;refine nk c ?_;apply ac;refine gw d hd ?_;apply ar;simpa using h
theorem zu5 (hc:X.calm=Z7)(hA:X.A=A.in1)(T:Turn X.prog X.w X.K (.Name x0 p0) J fp it tn)(P:Walk X.K J B H1 p)(V:¬B (Z9 d)):
  ∀n i s H kvs (es:bA) t W,p.length-i=n->i<=p.length->Inv X c Y H s->tn i s.heap->(∀b∈fp,FpOk X c H b)->H d=Z9 (.dK kvs)->kvs.length<=i->REs X.K H B kvs es->jM es (p.drop i)=Z9 Z->Kp B H1 H->
   (∀Q C f,Inv X c Y C Q->C d=Z9 (.dK f)->REs X.K C B f Z->(∀a o,a≠d->H a=Z9 o->C a=Z9 o)->R (.ok (.ret .none)) Q)->
   nc (model X.prog X.w) A (.builtin "dict.update.loop" ⟨[.ref d,.ref it,.int W t,.none],[]⟩) R s:=by
 intro n
 induction n with
 |zero=>
  intro i s H kvs es t W hn hi I st fo hd hl rs l kp hR;have e:i=p.length:=by omega
  subst e;refine i5 F.entry_dict_loop ?_;rw[Around.under_plainId F.aR _,<-hA];refine ac (aN (T.done X rfl rfl rfl hc _ c s Y H _ I fo st (P.stop H kp)) λr S D=>?_);obtain⟨rfl,I1⟩:=D;rw[List.drop_length]at l;cases l;exact ac (ar (ar (hR S H kvs I1 hd rs λ_ _ _ e=>e)))
 |succ n ih=>
  intro i s H kvs es t W hn hi I st fo hd hl rs l kp hR;have g:i<p.length:=by omega
  refine i5 F.entry_dict_loop ?_;rw[Around.under_plainId F.aR _,<-hA];refine ac (aN (T.item X rfl rfl rfl hc i c s Y H _ I fo st (P.go H kp i g)) λr S D=>?_);obtain⟨u,rfl,h4⟩:=D;have key:∀(m:Sem PySem.Fin) Q' E',wpAny (model X.prog X.w) X.A (jn (.Name x0 p0) (.ref it) u>>=λ_=>m) Q' E' S->wpAny (model X.prog X.w) X.A m Q' E' S:=λm Q' E' h=>h;refine key _ _ _ (ac (aN h4 λ_ s5 D=>?_));obtain⟨x,U,I5,r5,y5,v,Cz⟩:=D;obtain⟨sm,di,E,rx⟩:=P.fJ H kp i x U g y5;have ed:p.drop i=di::p.drop (i+1):=by rw[om g];rw[aq g]at E;cases E;rfl
  rw[ed]at l;unfold jM at l;split at l
  case h_2=>cases l
  rename_i kd vd;split at l
  case isFalse=>cases l
  rename_i hk;obtain⟨a,vs,rfl,sq,kS⟩:=rx;obtain⟨vk,G,rfl,rk,rv⟩:=Dd kS;cases r5;obtain⟨dE,L,pt,_⟩:=I5.tuple sq;obtain⟨uk,uv,rfl,QP,QQ⟩:=vals2 L;have M:=I5.pinned (λb j=>⟨Cz b j,(fo b j).2⟩) (T.obj _ _ v);have y:=sm _ _ hd;obtain⟨k,rfl,rfl,ok⟩:=xT hk rk;obtain⟨z,QR,kT,rel,dd⟩:=pS M.hok y;have Ah:kT.length<=bb:=rel.length▸z;have hz:=P.len;have QS:(putK kvs k G).length<=i+1:=by have:=zR kvs k G;omega
  refine ac (dh (ac (wpAny_tryCatch (QO pt ?_))));refine dh (wpAny_dictSet_pairs (pR QP) dd λh' N hs=>?_);have I6:=z4p (t':=s5.toks+1) M (y▸True.intro) hs (let⟨q,_,_,hq,_⟩:=N;⟨q,hq⟩) (zS (by omega) QR (rel.put k QQ) N)
  have O:Kp B U (upd U d (.dK (putK kvs k G))):=λb o e z=>by
   have:b≠d:=by
    rintro rfl
    rcases z with z|z
    .exact V z
    .rw[y]at e;cases e;exact z
   rw[aA this];exact e
  refine ar ⟨j3 F.aR _,?_⟩;refine ih (i+1) _ (upd U d (.dK (putK kvs k G))) (putK kvs k G) (dput es (kD k) vd) _ _ (by omega) g I6.bS ?_ ?_ aO QS ?_ l ?_ ?_
  .exact T.keep _ _ _ v λb j o e=>(I6.pin (b,o) (bp _ (bp _ (uH j e)))).1
  .intro b j;obtain⟨o,e,_⟩:=T.obj _ _ v b j;exact⟨(I6.pin (b,o) (bp _ (bp _ (uH j e)))).2.1,(fo b j).2⟩
  .exact REs.keep O (λ_ z=>z) _ (REs.put ok rv (rs.same sm λ_ z=>z))
  .exact λb o e z=>O b o (sm b o (kp b o e z)) z
  .intro Q C f I' oA QT ext;refine hR Q C f I' oA QT λb o j e=>ext b o j ?_;rw[aA j];exact sm b o e
theorem QU {K:Z5}(s:Same H b)(h:SqL K H a c):SqL K b a c:=by
 rcases h with(h|⟨o,h⟩)|h
 .exact .inl (.inl (s _ _ h))
 .exact .inl (.inr ⟨o,s _ _ h⟩)
 .exact .inr h
theorem QV (es:bA)(k v:D)(a:bU es=Z7)(h:aM v=Z7):bU (es++[(k,v)])=true:=by
 unfold bU at *
 rw[List.all_append,a];simp[h]
theorem QW (k v:D)(a:aM v=Z7)(es:bA)(h:bU es=Z7):bU (es.map λe=>if eqK e.1 k then(e.1,v)else e)=true:=by
 unfold bU at *
 rw[bg]at *
 intro e b;obtain⟨c,d,rfl⟩:=au.mp b;split
 .exact a
 .exact h c d
theorem IL:∀(b:List D) es a,imms b=Z7->bU es=Z7->jM es b=Z9 a->bU a=Z7
 | [],es,a,_,h,e=>by cases e;exact h
 |y::b,es,a,c,d,e=>by
  simp only[imms,bq]at c;unfold jM at e;split at e
  case h_2=>cases e
  rename_i k v;split at e
  case isFalse=>cases e
  have f:aM v=true:=by have:=c.1;change(aM k&&(aM v&&Z7))=Z7 at this;simp only[bq]at this;exact this.2.1
  refine IL b _ a c.2 ?_ e;unfold dput;split
  .exact QW k v f es d
  .exact QV es k v d f
theorem QX (hc:X.calm=Z7):CallR X (.type "dict") (rAgg X.K "dict"):=by
 rintro c s U H xs us Q I r ⟨B,x,dx,l,p,d,rfl,rx,e,G,q⟩
 obtain⟨a,vs,rfl,L,rs⟩:=pY rx e
 have e3:∃f,jM [] p=Z9 f/\d=.dict f:=by
  simp only[aggD,show("dict":String)≠"list" by decide,show("dict":String)≠"tuple" by decide,show("dict":String)≠"sorted" by decide,show("dict":String)≠"sum" by decide,show("dict":String)≠"all" by decide,show("dict":String)≠"any" by decide,if_true,if_false]at G;cases h:jM [] p with
  |none=>rw[h]at G;cases G
  |some es=>rw[h]at G;cases G;simp_all
 obtain⟨f,em,rfl⟩:=e3;have ew:z5a dx=.ok p:=by cases dx<;>first|(cases e;done)|(cases e;rfl)
 obtain⟨u,rfl,rfl⟩:=vals1 r;have t:=I.hok.fresh (af _);have V:Inv X c U (upd H s.heap.objs.size (.dK [])) {s with heap:=s.heap.push {cls:=.type "dict",data:=.dict #[]}}:=I.laid (λ_ _ q=>ah _ q) (af _) (Cc s.heap I.big);refine callType_codes (Q₁:=λobj j=>obj=.ref s.heap.objs.size/\j={s with heap:=s.heap.push {cls:=.type "dict",data:=.dict #[]}}) PySem.F.kt_called_dict (PySem.F.kt_typeCall_dict_1 _) PySem.F.entry_dict_init (kt_code_dict_new _ ⟨rfl,rfl⟩) ?_
 rintro obj j ⟨rfl,rfl⟩
 have k:(⟨s.heap.push {cls:=.type "dict",data:=.dict #[]},s.gens,s.drawn,s.toks,s.os⟩:ay).TypeIs (.ref s.heap.objs.size) "dict":=⟨_,ax _ rfl,rfl⟩;refine⟨k,PySem.F.args_dict_init_2 _ _,?_⟩
 delta Builtin.«dict.__init__»
 refine ac ?_
 delta Builtin.Dict.selfAndRest
 refine ac (wpAny_notOrdered_dict k ?_);refine ar ?_;show wpAny _ _ (p8 "dict.__init__" s.heap.objs.size (.ref a) [] .none) _ _ _
 delta p8
 have rest:∀m v,(∀b o,(s.heap.push {cls:=.type "dict",data:=.dict #[]}).get? b=Z9 o->m.get? b=Z9 o)->wpAny (model X.prog X.w) X.A.in1.in1 (qx (.ref a)) (λi M=>nc (model X.prog X.w) X.A.in1 (.builtin "dict.update.loop" ⟨[.ref s.heap.objs.size,i,kr 0,.none],[]⟩) (wants (λr N=>r=.none/\EP X c U Q (.ref s.heap.objs.size) N) X.xe) M) (λ_ _=>False) ⟨m,s.gens,s.drawn,v,s.os⟩:=by
  intro m v kp;have I2:Inv (uY X X.A.in1.in1 (λ_ _=>False)) c U (upd H s.heap.objs.size (.dK [])) ⟨m,s.gens,s.drawn,v,s.os⟩:=(V.kept kp).uY rfl rfl;refine aN (z3d (tg:=.Name "" default) (R:=λJ y=>Walk X.K J (λa=>B a/\¬nw H a) y p/\y=upd H s.heap.objs.size (.dK [])) I2 (show RelV (.ref a) (.ref a)from rfl) ((Rep.there _ rx).same (Same.upd t) λ_ z=>z) ew λJ W=>⟨W,rfl⟩) λi M zz=>?_;obtain⟨it,fp,tn,J,y,Y,I3,T,st,fo,W,eH⟩:=zz;subst Y eH;refine zu5 (X:=uY X X.A.in1.in1 (λ_ _=>False)) hc rfl T W (λz=>z.2 t) p.length 0 M _ [] [] _ _ (by omega) (by omega) I3 st fo aO (af _) rfl em (λ_ _ e _=>e) ?_;intro s' y O I' Z P ext;refine⟨rfl,.ref s.heap.objs.size,y,I'.Dy I.ok,rfl,q _ y (λb o e=>ext b o (bY e t) (aA (bY e t)▸e)) ⟨_,O,rfl,Z,.inl t,?_⟩⟩;cases hi:imms p with
  |true=>exact REs.aT f (IL p [] f hi rfl em) P
  |false=>exact P.same (Same.refl y) λ_ z=>.inr ⟨rfl,z.1⟩
 have hA:=I.ok.hd hc;cases l with
 |true=>obtain⟨dE,_,⟨o,n,S,g,C,D⟩,_⟩:=V.list (QU (Same.upd t) L);refine ac (nk ⟨o,S,g⟩ ?_);refine ac (QM S g D C hA λm v e hx=>?_);refine ac (n7 (ac (jl (rest m v hx.keeps) (λi M E=>?_) λ_ _ z=>z.elim)));exact ar ⟨j3 F.aR _,E⟩
 |false=>obtain⟨dE,_,⟨o,n,S,g,C,D⟩,_⟩:=V.lI (bF.rel (Same.upd t) L);refine ac (nk ⟨o,S,g⟩ ?_);refine ac (QN S g D C hA λm v e hx=>?_);refine ac (n7 (ac (jl (rest m v hx.keeps) (λi M E=>?_) λ_ _ z=>z.elim)));exact ar ⟨j3 F.aR _,E⟩
end
open PySem.W
def runT {α:Type}(lt:Nat->Nat->Bool):KasT α->α
 |.ret a=>a
 |.ask i j k=>runT lt (k (lt i j))
theorem uZ {a b:Type}(lt:Nat->Nat->Bool)(f:a->KasT b):∀t,runT lt (t.bind f)=runT lt (f (runT lt t))
 |.ret _=>rfl
 |.ask i j k=>uZ lt f (k (lt i j))
section
variable (key:Nat->Nat)
abbrev ltk:Nat->Nat->Bool:=λi j=>decide (key i<key j)
def Kp' (p:Array Nat)(i:Nat):Nat:=key (p.getD i 0)
variable {key}
theorem xZ (h:p[i]?=q[j]?):Kp' key p i=Kp' key q j:=by unfold Kp';rw[gj,gj,h]
theorem x4 (b:j<=p.size)(k:Nat):Kp' key (kas_rev p i j) k=if i<=k/\k<j then Kp' key p (i+j-1-k)else Kp' key p k:=by
 have h:=getElem?_mirror_all (i:=i) b k;split
 .rename_i a;refine xZ ?_;unfold kas_rev;rw[h,xh a]
 .rename_i a;refine xZ ?_;unfold kas_rev;rw[h,xk a]
theorem IM (hs:a<p.size)(hd:d<=a)(k:Nat):Kp' key (bubble p a d) k=if k=a-d then Kp' key p a else if a-d<k/\k<=a then Kp' key p (k-1)else Kp' key p k:=by
 have h:=getElem?_bubble hs d hd k;split
 .rename_i c;exact xZ (by rw[h,xh c])
 .rename_i c;split
  .rename_i b;exact xZ (by rw[h,xk c,xh b])
  .rename_i b;exact xZ (by rw[h,xk c,xk b])
theorem Ai (p:Array Nat)(i j:Nat):(kas_rev p i j).size=p.size:=mirror_size _ _ _ _
theorem x' (p:Array Nat)(i j:Nat):(kas_rev p i j).Perm p:=mirror_perm _ _ _ _
theorem z6k (p:Array Nat):∀f n,1<=n->n<=runT (ltk key) (kas_asc p f n)/\runT (ltk key) (kas_asc p f n)<=n+f/\(∀i,n<=i->i<runT (ltk key) (kas_asc p f n)->Kp' key p (i-1)<=Kp' key p i)/\
  (runT (ltk key) (kas_asc p f n)<n+f->Kp' key p (runT (ltk key) (kas_asc p f n))<Kp' key p (runT (ltk key) (kas_asc p f n)-1))
 |0,n,h=>⟨af _,af _,λi b a=>absurd (iu b a) (cu _),λa=>absurd a (cu _)⟩
 |f+1,n,h=>by
  have e:runT (ltk key) (kas_asc p (f+1) n)=runT (ltk key) (if decide (Kp' key p n<Kp' key p (n-1))=Z7 then .ret n else kas_asc p f (n+1)):=rfl;rw[e];by_cases c:Kp' key p n<Kp' key p (n-1)
  .rw[xh (xp c)];exact⟨af _,jd _ _,λi b a=>absurd (iu b a) (cu _),λ_=>c⟩
  .rw[xk (by simpa using c)];obtain⟨k,l,d,g⟩:=z6k p f (n+1) (by omega);refine⟨by omega,by omega,λi b a=>?_,λa=>g (by omega)⟩;by_cases j:i=n
   .subst j;omega
   .exact d i (by omega) a
structure DPre (key:Nat->Nat)(p:Array Nat)(n q:Nat):Prop where
 one:1<=n
 qn:q+1<=n
 sz:n<=p.size
 de:∀i,1<=i->i<n->Kp' key p i<=Kp' key p (i-1)
 eq:∀i,n<=i+1+q->i<n->Kp' key p i=Kp' key p (n-1)
theorem DPre.rev (h:DPre key p n q)(k:Nat):Kp' key (kas_rev p (n-(q+1)) n) k=Kp' key p k:=by
 rw[x4 h.sz];split
 .rename_i a;rw[h.eq k (by omega) a.2,h.eq _ (by omega) (by omega)]
 .rfl
theorem z3g:∀f p n q,DPre key p n q->n+f<=p.size->
  DPre key (runT (ltk key) (kas_desc f p n q)).1 (runT (ltk key) (kas_desc f p n q)).2.1 (runT (ltk key) (kas_desc f p n q)).2.2/\(runT (ltk key) (kas_desc f p n q)).1.Perm p/\(runT (ltk key) (kas_desc f p n q)).2.1<=n+f
 |0,p,n,q,h,s=>⟨h,Array.Perm.refl _,af _⟩
 |f+1,p,n,q,h,s=>by
  have e:runT (ltk key) (kas_desc (f+1) p n q)=runT (ltk key) (if decide (Kp' key p n<Kp' key p (n-1))=Z7 then(if q>0 then kas_desc f (kas_rev p (n-(q+1)) n) (n+1) 0 else kas_desc f p (n+1) 0) else .ask (p.getD (n-1) 0) (p.getD n 0) λd=>if d=Z7 then .ret (p,n,q)else kas_desc f p (n+1) (q+1)):=rfl;rw[e];by_cases m:Kp' key p n<Kp' key p (n-1)
  .rw[xh (xp m)];by_cases o:q>0
   .rw[xh o]
    have c:DPre key (kas_rev p (n-(q+1)) n) (n+1) 0:=⟨by omega,by omega,by rw[Ai];omega,λi a g=>by
     rw[h.rev,h.rev];by_cases b:i=n
     .subst b;omega
     .exact h.de i a (by omega),λi a g=>by
     have:i=n:=by omega
     subst this;rfl⟩
    obtain⟨j,k,r⟩:=z3g f _ (n+1) 0 c (by rw[Ai];omega);exact⟨j,k.trans (x' _ _ _),by omega⟩
   .rw[xk o]
    have c:DPre key p (n+1) 0:=⟨by omega,by omega,by omega,λi a g=>by
     by_cases b:i=n
     .subst b;omega
     .exact h.de i a (by omega),λi a g=>by
     have:i=n:=by omega
     subst this;rfl⟩
    obtain⟨j,k,r⟩:=z3g f _ (n+1) 0 c (by omega);exact⟨j,k,by omega⟩
  .rw[xk (by simpa using m)];have t:runT (ltk key) (KasT.ask (p.getD (n-1) 0) (p.getD n 0) λd=>if d=Z7 then .ret (p,n,q)else kas_desc f p (n+1) (q+1))=runT (ltk key) (if decide (Kp' key p (n-1)<Kp' key p n)=Z7 then .ret (p,n,q)else kas_desc f p (n+1) (q+1)):=rfl;rw[t];by_cases l:Kp' key p (n-1)<Kp' key p n
   .rw[xh (xp l)];exact⟨h,Array.Perm.refl _,by show n<=_;omega⟩
   .rw[xk (by simpa using l)]
    have c:DPre key p (n+1) (q+1):=⟨by omega,by have :=h.qn;omega,by omega,λi a g=>by
     by_cases b:i=n
     .subst b;omega
     .exact h.de i a (by omega),λi a g=>by
     by_cases b:i=n
     .subst b;rfl
     .have :=h.eq i (by omega) (by omega);rw[Nat.add_sub_cancel];omega⟩
    obtain⟨j,k,r⟩:=z3g f _ (n+1) (q+1) c (by omega);exact⟨j,k,by omega⟩
def Asc (key:Nat->Nat)(p:Array Nat)(m:Nat):Prop:=∀i,1<=i->i<m->Kp' key p (i-1)<=Kp' key p i
theorem z5d (a:1<=n)(hn:n<=nrem)(c:nrem<=p.size)(de:∀i,1<=i->i<n->Kp' key p i<=Kp' key p (i-1)):
  Asc key (runT (ltk key) (kas_tail3 n nrem p)).2 (runT (ltk key) (kas_tail3 n nrem p)).1/\(runT (ltk key) (kas_tail3 n nrem p)).2.Perm p/\1<=(runT (ltk key) (kas_tail3 n nrem p)).1/\(runT (ltk key) (kas_tail3 n nrem p)).1<=nrem:=by
 unfold kas_tail3;rw[uZ];obtain⟨a1,a2,a3,_⟩:=z6k (key:=key) (kas_rev p 0 n) (nrem-n) n a;refine⟨λi d b=>?_,x' _ _ _,by show 1<=runT _ _;omega,by show runT _ _<=_;omega⟩;by_cases f:i<n
 .show Kp' key (kas_rev p 0 n) (i-1)<=Kp' key (kas_rev p 0 n) i;rw[x4 (by omega),x4 (by omega),xh (by omega),xh (by omega)];have:=de (0+n-1-(i-1)) (by omega) (by omega);have e:0+n-1-(i-1)-1=0+n-1-i:=by omega
  rw[e]at this;exact this
 .exact a3 i (by omega) b
theorem descPart_spec (l:1<=n)(hn:n<nrem)(g:nrem<=p.size)(eq:∀i,i<n->Kp' key p i=Kp' key p (n-1))(lt:Kp' key p n<Kp' key p (n-1)):
  Asc key (runT (ltk key) (kas_descPart n nrem p)).2 (runT (ltk key) (kas_descPart n nrem p)).1/\(runT (ltk key) (kas_descPart n nrem p)).2.Perm p/\1<=(runT (ltk key) (kas_descPart n nrem p)).1/\(runT (ltk key) (kas_descPart n nrem p)).1<=nrem:=by
 unfold kas_descPart;rw[uZ]
 have h:DPre key p (n+1) 0:=⟨by omega,by omega,by omega,λi i1 d=>by
  by_cases k:i=n
  .subst k;omega
  .rw[eq i (by omega),eq (i-1) (by omega)];exact af _,λi i1 d=>by
  have:i=n:=by omega
  subst this;rfl⟩
 obtain⟨b,c,r3⟩:=z3g (nrem-(n+1)) p (n+1) 0 h (by omega);generalize runT (ltk key) (kas_desc (nrem-(n+1)) p (n+1) 0)=r at b c r3 ⊢;have a:=c.size_eq;by_cases j:r.2.2>0
 .rw[xh j];obtain⟨t1,t2,e,f⟩:=z5d (p:=kas_rev r.1 (r.2.1-(r.2.2+1)) r.2.1) (nrem:=nrem) b.one (by omega) (by rw[Ai,a];exact g) λi i1 d=>by rw[b.rev,b.rev];exact b.de i i1 d
  exact⟨t1,t2.trans ((x' _ _ _).trans c),e,f⟩
 .rw[xk j];obtain⟨t1,t2,e,f⟩:=z5d (nrem:=nrem) b.one (by omega) (a▸g) b.de;exact⟨t1,t2.trans c,e,f⟩
theorem Asc.le (h:Asc key p m):∀d i,i+d<m->Kp' key p i<=Kp' key p (i+d)
 |0,i,_=>af _
 |d+1,i,hm=>by exact a8 (Asc.le h d i (by omega)) (h (i+d+1) (by omega) (by omega))
theorem zar (s:1<=a)(hz:a<=p.size):
  Asc key (runT (ltk key) (kas_count a p)).2 (runT (ltk key) (kas_count a p)).1/\(runT (ltk key) (kas_count a p)).2.Perm p/\1<=(runT (ltk key) (kas_count a p)).1/\(runT (ltk key) (kas_count a p)).1<=a:=by
 unfold kas_count;rw[uZ];obtain⟨a1,a2,a3,a4⟩:=z6k p (a-1) 1 (af _);generalize runT (ltk key) (kas_asc p (a-1) 1)=n at a1 a2 a3 a4 ⊢;have b:Asc key p n:=a3;by_cases hn:n=a
 .rw[xh (by simpa using hn)];exact⟨b,Array.Perm.refl _,a1,by show n<=_;omega⟩
 .rw[xk (by simpa using hn)];have lt:=a4 (by omega);by_cases f:n>1
  .rw[xh f];have e:runT (ltk key) (KasT.ask (p.getD 0 0) (p.getD (n-1) 0) λc=>if c=Z7 then .ret (n,p)else kas_descPart n a (kas_rev p 0 n))=runT (ltk key) (if decide (Kp' key p 0<Kp' key p (n-1))=Z7 then .ret (n,p)else kas_descPart n a (kas_rev p 0 n)):=rfl;rw[e];by_cases g:Kp' key p 0<Kp' key p (n-1)
   .rw[xh (xp g)];exact⟨b,Array.Perm.refl _,a1,by show n<=_;omega⟩
   .rw[xk (by simpa using g)]
    have eq:∀i,i<n->Kp' key p i=Kp' key p (n-1):=λi hi=>by
     have h:=b.le i 0 (by omega);have j:=b.le (n-1-i) i (by omega);have k:0+i=i:=by omega
     have l:i+(n-1-i)=n-1:=by omega
     rw[k]at h;rw[l]at j;omega
    have rY:∀i,i<n->Kp' key (kas_rev p 0 n) i=Kp' key p (n-1):=λi hi=>by rw[x4 (by omega),xh (by omega)];exact eq _ (by omega)
    obtain⟨m,o,q,r⟩:=descPart_spec (p:=kas_rev p 0 n) (nrem:=a) (by omega) (by omega) (by rw[Ai];exact hz) (λi hi=>by rw[rY i hi,rY (n-1) (by omega)]) (by rw[rY (n-1) (by omega),x4 (by omega),xk (by omega)];exact lt);exact⟨m,o.trans (x' _ _ _),q,r⟩
  .rw[xk f];have d:n=1:=by omega
   subst d
   exact descPart_spec (Nat.le_refl _) (by omega) hz (fun i hi=>by have :i=0:=by omega
                                                                   subst this;rfl) lt
theorem place_spec (b:Asc key p k):∀f l r,r-l<=f->l<=r->r<=k->(∀i,i<l->Kp' key p i<=Kp' key p k)->(∀i,r<=i->i<k->Kp' key p k<Kp' key p i)->
  runT (ltk key) (kas_place p k f l r)<=k/\(∀i,i<runT (ltk key) (kas_place p k f l r)->Kp' key p i<=Kp' key p k)/\(∀i,runT (ltk key) (kas_place p k f l r)<=i->i<k->Kp' key p k<Kp' key p i)
 |0,l,r,s,t,d,g,h=>by
  have:l=r:=by omega
  subst this;exact⟨d,g,h⟩
 |f+1,l,r,s,t,d,g,h=>by
  unfold kas_place;by_cases o:l ≥ r
  .rw[xh o];have:l=r:=by omega
   subst this;exact⟨d,g,h⟩
  .rw[xk o];have e:runT (ltk key) (KasT.ask (p.getD k 0) (p.getD ((l+r)/2) 0) λc=>if c=Z7 then kas_place p k f l ((l+r)/2)else kas_place p k f ((l+r)/2+1) r)=runT (ltk key) (if decide (Kp' key p k<Kp' key p ((l+r)/2))=Z7 then kas_place p k f l ((l+r)/2)else kas_place p k f ((l+r)/2+1) r):=rfl;rw[e];have a:l<=(l+r)/2:=by omega
   have j:(l+r)/2<r:=by omega
   generalize (l+r)/2=m at a j ⊢;by_cases q:Kp' key p k<Kp' key p m
   .rw[xh (xp q)];refine place_spec b f l m (by omega) a (by omega) g λi u v=>?_;have:=b.le (i-m) m (by omega);have n:m+(i-m)=i:=by omega
    rw[n]at this;omega
   .rw[xk (by simpa using q)];refine place_spec b f (m+1) r (by omega) (by omega) d (λi u=>?_) h;have:=b.le (m-i) i (by omega);have n:i+(m-i)=m:=by omega
    rw[n]at this;omega
theorem IP:∀f p k,Asc key p k->k+f<=p.size->Asc key (runT (ltk key) (kas_bin f p k)) (k+f)/\(runT (ltk key) (kas_bin f p k)).Perm p
 |0,p,k,a,n=>⟨a,Array.Perm.refl _⟩
 |f+1,p,k,a,n=>by
  unfold kas_bin;rw[uZ];obtain⟨o,d,g⟩:=place_spec a k 0 k (by omega) (be _) (af _) (λi q=>absurd q (Nat.not_lt_zero _)) λi b h=>absurd (iu b h) (cu _);generalize runT (ltk key) (kas_place p k k 0 k)=l at o d g ⊢
  have r:Asc key (bubble p k (k-l)) (k+1):=λi b h=>by
   have e:k-(k-l)=l:=by omega
   rw[IM (by omega) (by omega),IM (by omega) (by omega),e];by_cases j:i=l
   .rw[xk (by omega),xk (by omega),xh j];exact d _ (by omega)
   .rw[xk j];by_cases c:i-1=l
    .rw[xh c,xh (by omega)];rw[c];exact jx (g l (af _) (by omega))
    .rw[xk c];by_cases t:l<i
     .rw[xh (by omega),xh (by omega)];exact a (i-1) (by omega) (by omega)
     .rw[xk (by omega),xk (by omega)];exact a i b (by omega)
  obtain⟨m,s⟩:=IP f (bubble p k (k-l)) (k+1) r (by rw[bubble_size];omega);refine⟨?_,s.trans (bubble_perm _ _ _)⟩;have e:k+1+f=k+(f+1):=by omega
  rw[e]at m;exact m
theorem Dz (n:Nat)(f:1<=n):Asc key (runT (ltk key) (kas_sort n)) n/\(runT (ltk key) (kas_sort n)).Perm (lu (d8 n)):=by
 unfold kas_sort;rw[uZ];have a:(lu (d8 n)).size=n:=by simp
 obtain⟨b,c,g,i⟩:=zar f (by rw[a];exact af _);generalize runT (ltk key) (kas_count n (lu (d8 n)))=r at b c g i ⊢;have hr:r.2.size=n:=by rw[c.size_eq,a]
 by_cases h:r.1<n
 .rw[xh h];have e:max r.1 1=r.1:=by omega
  rw[e];obtain⟨d,j⟩:=IP (n-r.1) r.2 r.1 b (by omega);refine⟨?_,j.trans c⟩;have e:r.1+(n-r.1)=n:=by omega
  rw[e]at d;exact d
 .rw[xk h];have e:r.1=n:=by omega
  rw[e]at b;exact⟨b,c⟩
end
theorem vA {h:Heap}(c:b≠a)(e:h.get? b=Z9 o):(h.update a f).get? b=Z9 o:=by rw[sx _ _ _ _ c];exact e
theorem z7q {a:List Value}(x:s.heap.IsList l a.toArray)(y:a.length<2)
  (h:∀D m n,s.heap.objs.size<=D->(∀b o,s.heap.get? b=Z9 o->m.get? b=Z9 o)->m.get? D=Z9 (fg "list" a.toArray n)->Q (.ref D) {s with heap:=m}):wpAny (model prog w) A (call (.builtin "sorted") [.ref l]) Q E s:=by
 apply j0 wb uw ux (uy _);apply ac;apply ar;apply ac;refine collect_list x ?_ (by rw[bt];omega);apply ac;refine j4 ?_ (by rw[bt];omega);have u:∀b o,s.heap.get? b=Z9 o->((s.heap.push (fg "list" #[] 0)).update s.heap.objs.size (Obj.mapSeq (· ++a.toArray))).get? b=Z9 o:=λb o e=>vA (cx (bh e)) (ah _ e);have k:s.heap.objs.size<=((s.heap.push (fg "list" #[] 0)).update s.heap.objs.size (Obj.mapSeq (· ++a.toArray))).objs.size:=by rw[Heap.size_update,mf];omega
 generalize ((s.heap.push (fg "list" #[] 0)).update s.heap.objs.size (Obj.mapSeq (·++a.toArray)))=i at u k ⊢;have c:(i.push (fg "list" a.toArray 0)).get? i.objs.size=Z9 (fg "list" a.toArray 0):=ax _ rfl;have j:∀b o,s.heap.get? b=Z9 o->b≠i.objs.size/\(i.push (fg "list" a.toArray 0)).get? b=Z9 o:=λb o e=>⟨cx (cf (bh e) k),ah _ (u b o e)⟩;generalize B:i.objs.size=D at c j k ⊢;generalize i.push (fg "list" a.toArray 0)=f at c j ⊢;apply ac;apply dh;refine gf slot_list_sort ⟨_,c,rfl⟩ entry_list_sort ?body (args_list_sort _);rw[list_sort_plain];refine ac (qp c rfl ?_);refine ac (mh c rfl ?_);obtain⟨p,g⟩:∃p,(f.update D (Obj.mapSeq λ_=>(#[]:Array Value))).get? D=Z9 (fg "list" #[] p):=⟨_,j8 c λ_=>#[]⟩;have q:∀b o,s.heap.get? b=Z9 o->b≠D/\(f.update D (Obj.mapSeq λ_=>(#[]:Array Value))).get? b=Z9 o:=λb o e=>⟨(j b o e).1,vA (j b o e).1 (j b o e).2⟩;generalize (f.update D (Obj.mapSeq λ_=>(#[]:Array Value)))=r at g q ⊢;refine ac (se g rfl ?_);refine ac (n8 ?_ (by rw[bt];simp;omega));apply ac;refine j4 (dh ?_);have d:((r.push (fg "tuple" a.toArray 0)).push (fg "list" #[] 0)).get? D=Z9 (fg "list" #[] p):=ah _ (ah _ g);have t:∀b o,s.heap.get? b=Z9 o->b≠D/\((r.push (fg "tuple" a.toArray 0)).push (fg "list" #[] 0)).get? b=Z9 o:=λb o e=>⟨(q b o e).1,ah _ (ah _ (q b o e).2)⟩;generalize ((r.push (fg "tuple" a.toArray 0)).push (fg "list" #[] 0))=C at d t ⊢;have v:a.toArray.size<2:=by simpa using y
 rw[xh v,xh v];refine ac (ar ?_);refine ac (ar ?_);refine ac (se d rfl ?_);have z:(arrOf (SortSt.mk' general' (a.toArray.zip a.toArray) #[] 7 Z8)).map (·.2)=a.toArray:=by show(a.toArray.zip a.toArray).map (·.2)=a.toArray;simp;exact List.map_snd_zip (af _)
 rw[z];refine ac (mh d rfl ?_);simp only[if_false,Bool.false_eq_true,bne_self_eq_false];refine ar ⟨_,rfl,ar ⟨_,rfl,h D _ _ k (λb o e=>vA (t b o e).1 (t b o e).2) (j8 d λ_=>a.toArray)⟩⟩
def cV {α:Type}(n:Nat)(Q:α->Prop):KasT α->Prop
 |.ret a=>Q a
 |.ask i j k=>i<n/\j<n/\∀b,cV n Q (k b)
theorem cV.bind {c d:Type}{Q:c->Prop}{R:d->Prop}{f:c->KasT d}(e:∀a,Q a->cV n R (f a)):∀{t:KasT c},cV n Q t->cV n R (t.bind f)
 |.ret a,h=>e a h
 |.ask i j k,h=>⟨h.1,h.2.1,λb=>cV.bind e (h.2.2 b)⟩
theorem cV.ite [Decidable c] (d:cV n Q a)(e:cV n Q b):cV n Q (if c then a else b):=by
 split
 .exact d
 .exact e
def AllIn (n:Nat)(p:Array Nat):Prop:=0<n/\∀x∈p,x<n
theorem AllIn.get (h:AllIn n p)(i:Nat):p.getD i 0<n:=by
 rw[gj];cases e:p[i]? with
 |none=>exact h.1
 |some x=>exact h.2 x (Array.mem_of_getElem? e)
theorem AllIn.perm (h:AllIn n p)(a:q.Perm p):AllIn n q:=⟨h.1,λx hx=>h.2 x (a.mem_iff.mp hx)⟩
theorem AllIn.rev (h:AllIn n p)(i j:Nat):AllIn n (kas_rev p i j):=h.perm (x' _ _ _)
theorem DA (h:AllIn n p):∀f m,cV n (λ_=>True) (kas_asc p f m)
 |0,m=>trivial
 |f+1,m=>⟨h.get _,h.get _,λb=>cV.ite trivial (DA h f (m+1))⟩
theorem Aj:∀f p m q,AllIn n p->cV n (λr=>AllIn n r.1) (kas_desc f p m q)
 |0,p,m,q,h=>h
 |f+1,p,m,q,h=>⟨h.get _,h.get _,λb=>cV.ite (cV.ite (Aj f _ _ _ (h.rev _ _)) (Aj f _ _ _ h)) ⟨h.get _,h.get _,λd=>cV.ite h (Aj f _ _ _ h)⟩⟩
theorem IQ (h:AllIn n p):cV n (λr=>AllIn n r.2) (kas_tail3 m r p):=by refine cV.bind (λa _=>?_) (DA (h.rev _ _) _ _);exact h.rev _ _
theorem IS (h:AllIn n p):cV n (λr=>AllIn n r.2) (kas_descPart m r p):=cV.bind (λa b=>cV.ite (IQ (AllIn.rev b _ _)) (IQ b)) (Aj _ _ _ _ h)
theorem QY (h:AllIn n p):cV n (λr=>AllIn n r.2) (kas_count r p):=by
 refine cV.bind (λm _=>?_) (DA h _ _);split
 .exact h
 .split
  .refine⟨h.get _,h.get _,λc=>?_⟩;show cV n _ (if c=Z7 then _ else _);split
   .exact h
   .exact IS (h.rev _ _)
  .exact IS h
theorem DB (h:AllIn n p)(k:Nat):∀f l r,cV n (λ_=>True) (kas_place p k f l r)
 |0,l,r=>trivial
 |f+1,l,r=>by exact cV.ite trivial ⟨h.get _,h.get _,λc=>cV.ite (DB h k f _ _) (DB h k f _ _)⟩
theorem IT:∀f p k,AllIn n p->cV n (λ_=>True) (kas_bin f p k)
 |0,p,k,h=>trivial
 |f+1,p,k,h=>cV.bind (λl _=>IT f _ _ (h.perm (bubble_perm _ _ _))) (DB h k _ _ _)
theorem IU (h:0<n):cV n (λ_=>True) (kas_sort n):=by
 refine cV.bind (λr hr=>?_) (QY ⟨h,λx hx=>by simpa using hx⟩);split
 .exact IT _ _ _ hr
 .exact trivial
theorem DC {c:Type}{P:ay->Prop}(h:∀i j C s,i<n->j<n->P s->(∀b,P b->C (lt i j) b)->cmp i j C s){Q:c->ay->Prop}:∀t s,cV n (λ_=>True) t->P s->(∀b,P b->Q (runT lt t) b)->t.kasWp cmp Q s
 |.ret a,s,_,p,q=>q s p
 |.ask i j k,s,a,p,q=>h i j _ s a.1 a.2.1 p λb d=>DC h (k (lt i j)) b (a.2.2 _) d q
structure OrdOn (p:D->Prop):Prop where
 gU:∀x,p x->bZ x x=Z6
 tr:∀x y z,p x->p y->p z->bZ x y=Z7->bZ y z=Z7->bZ x z=Z7
 iG:∀x y z,p x->p y->p z->bZ x z=Z7->bZ x y=Z7\/bZ y z=Z7
 hS:∀x y,p x->p y->bZ x y=Z6->bZ y x=Z6->x=y
theorem kU (h:uN x=Z7):∃i,x=.int i:=by cases x<;>first|(cases h;done)|exact⟨_,rfl⟩
theorem kW (h:zX x=Z7):∃i,x=.str i:=by cases x<;>first|(cases h;done)|exact⟨_,rfl⟩
theorem ya (a b:Int):bZ (.int a) (.int b)=decide (a<b):=rfl
theorem QZ (a b:Str):bZ (.str a) (.str b)=decide (a.cps.toList<b.cps.toList):=rfl
theorem oV:OrdOn (λx=>uN x=Z7) where
 gU:=λx h=>by obtain⟨i,rfl⟩:=kU h;rw[ya];simp
 tr:=λx y z hx a b c d=>by obtain⟨i,rfl⟩:=kU hx;obtain⟨j,rfl⟩:=kU a;obtain⟨k,rfl⟩:=kU b;rw[ya,decide_eq_true_eq]at *;omega
 iG:=λx y z hx a b h=>by
  obtain⟨i,rfl⟩:=kU hx;obtain⟨j,rfl⟩:=kU a;obtain⟨k,rfl⟩:=kU b;rw[ya,decide_eq_true_eq]at *
  rw[ya,decide_eq_true_eq];omega
 hS:=λx y hx a c d=>by
  obtain⟨i,rfl⟩:=kU hx;obtain⟨j,rfl⟩:=kU a;rw[ya,decide_eq_false_iff_not]at *
  rw[show i=j by omega]
theorem Q0 {b:Str}(h:a.cps.toList=b.cps.toList):a=b:=by obtain⟨⟨l⟩⟩:=a;obtain⟨⟨m⟩⟩:=b;simp only at h;rw[h]
theorem oW:OrdOn (λx=>zX x=Z7) where
 gU:=λx h=>by obtain⟨i,rfl⟩:=kW h;rw[QZ];simp_all
 tr:=λx y z hx a b c d=>by obtain⟨i,rfl⟩:=kW hx;obtain⟨j,rfl⟩:=kW a;obtain⟨k,rfl⟩:=kW b;exact strKind.trans _ _ _ c d
 iG:=λx y z hx a b h=>by obtain⟨i,rfl⟩:=kW hx;obtain⟨j,rfl⟩:=kW a;obtain⟨k,rfl⟩:=kW b;exact strKind.negTrans _ _ _ h
 hS:=λx y hx a c d=>by obtain⟨i,rfl⟩:=kW hx;obtain⟨j,rfl⟩:=kW a;rw[Q0 (strKind.total _ _ c d)]
theorem rZ (b:Bool):OrdOn (λx=>ofK b x=Z7):=by
 cases b with
 |true=>exact oV
 |false=>exact oW
theorem IV (hx:ofK b x=Z7)(hy:ofK b y=Z7):cc x y=Z7↔x=y:=by
 cases b with
 |true=>obtain⟨i,rfl⟩:=kU hx;obtain⟨j,rfl⟩:=kU hy;show(i==j)=Z7↔_;rw[beq_iff_eq];exact⟨λh=>by rw[h],λh=>by cases h;rfl⟩
 |false=>obtain⟨i,rfl⟩:=kW hx;obtain⟨j,rfl⟩:=kW hy;show(i==j)=Z7↔_;rw[beq_iff_eq];exact⟨λh=>by rw[h],λh=>by cases h;rfl⟩
theorem nA (h:cK (b::bs) a=Z7):∃x r,a=x::r/\ofK b x=Z7/\cK bs r=true:=by
 cases a with
 |nil=>cases h
 |cons x r=>simp only[cK,bq]at h;exact⟨x,r,rfl,h.1,h.2⟩
theorem pZ (h:cK [] a=Z7):a=[]:=by
 cases a with
 |nil=>rfl
 |cons x r=>cases h
theorem yb (x y:D)(a b:List D):aF (x::a) (y::b)=if cc x y then aF a b else bZ x y:=by simp only[aF]
theorem oX (hx:ofK b x=Z7)(a:ofK b y=Z7)(h:x=y):aF (x::c) (y::d)=aF c d:=by rw[yb,xh ((IV hx a).mpr h)]
theorem iV (hx:ofK b x=Z7)(a:ofK b y=Z7)(h:x≠y):aF (x::c) (y::d)=bZ x y:=by rw[yb,xk λz=>h ((IV hx a).mp z)]
theorem Al:aF [] []=false:=by simp[aF]
theorem IW:∀bs a,cK bs a=Z7->aF a a=Z6
 | [],a,h=>by rw[pZ h];exact Al
 |b::bs,a,h=>by obtain⟨x,r,rfl,c,d⟩:=nA h;rw[oX c c rfl];exact IW bs r d
theorem IX:∀bs e f g,cK bs e=Z7->cK bs f=Z7->cK bs g=Z7->aF e f=Z7->aF f g=Z7->aF e g=Z7
 | [],e,f,g,k,l,m,a,h=>by rw[pZ k,pZ l]at a;cases a
 |b::bs,e,f,g,k,l,m,a,h=>by
  obtain⟨x,e,rfl,hx,k⟩:=nA k;obtain⟨y,f,rfl,i,l⟩:=nA l;obtain⟨z,g,rfl,c,m⟩:=nA m;have O:=rZ b;by_cases j:x=y
  .rw[oX hx i j]at a;by_cases d:y=z
   .rw[oX i c d]at h;rw[oX hx c (j.trans d)];exact IX bs e f g k l m a h
   .rw[iV i c d]at h;rw[iV hx c (j▸d),j];exact h
  .rw[iV hx i j]at a;by_cases d:y=z
   .rw[iV hx c (d▸j),<-d];exact a
   .rw[iV i c d]at h;have n:=O.tr x y z hx i c a h;rw[iV hx c (λq=>by subst q;rw[O.gU x hx]at n;cases n)];exact n
theorem IY:∀bs d f g,cK bs d=Z7->cK bs f=Z7->cK bs g=Z7->aF d g=Z7->aF d f=Z7\/aF f g=Z7
 | [],d,f,g,j,l,k,m=>by rw[pZ j,pZ k]at m;cases m
 |b::bs,d,f,g,j,l,k,e=>by
  obtain⟨x,d,rfl,hx,j⟩:=nA j;obtain⟨y,f,rfl,a,l⟩:=nA l;obtain⟨z,g,rfl,h,k⟩:=nA k;have O:=rZ b;by_cases i:x=z
  .rw[oX hx h i]at e;by_cases c:x=y
   .rw[oX hx a c,oX a h (c.symm.trans i)];exact IY bs d f g j l k e
   .rw[iV hx a c,iV a h (λq=>c (i.trans q.symm)),<-i];cases m:bZ x y with
    |true=>exact .inl rfl
    |false=>
     cases o:bZ y x with
     |true=>exact .inr rfl
     |false=>exact(c (O.hS x y hx a m o)).elim
  .rw[iV hx h i]at e;by_cases c:x=y
   .rw[iV a h (λq=>i (c.trans q)),<-c];exact .inr e
   .rw[iV hx a c];by_cases n:y=z
    .rw[n];exact .inl e
    .rw[iV a h n];exact O.iG x y z hx a h e
theorem IZ:∀bs a c,cK bs a=Z7->cK bs c=Z7->aF a c=Z6->aF c a=Z6->a=c
 | [],a,c,e,f,g,h=>by rw[pZ e,pZ f]
 |b::bs,a,c,e,f,g,h=>by
  obtain⟨x,a,rfl,hx,e⟩:=nA e;obtain⟨y,c,rfl,i,f⟩:=nA f;by_cases d:x=y
  .rw[oX hx i d]at g;rw[oX i hx d.symm]at h;rw[d,IZ bs a c e f g h]
  .rw[iV hx i d]at g;rw[iV i hx (λq=>d q.symm)]at h;exact(d ((rZ b).hS x y hx i g h)).elim
theorem mG (h:zao bs x=Z7):∃a,x=.tuple a/\cK bs a=true:=by cases x<;>first|(cases h;done)|exact⟨_,rfl,h⟩
theorem Q1 (a b:List D):bZ (.tuple a) (.tuple b)=aF a b:=rfl
theorem sD (bs:List Bool):OrdOn (λx=>zao bs x=Z7) where
 gU:=λx h=>by obtain⟨i,rfl,h⟩:=mG h;rw[Q1];exact IW bs i h
 tr:=λx y z hx a b c d=>by obtain⟨i,rfl,hx⟩:=mG hx;obtain⟨j,rfl,a⟩:=mG a;obtain⟨k,rfl,b⟩:=mG b;exact IX bs _ _ _ hx a b c d
 iG:=λx y z hx a b h=>by obtain⟨i,rfl,hx⟩:=mG hx;obtain⟨j,rfl,a⟩:=mG a;obtain⟨k,rfl,b⟩:=mG b;exact IY bs _ _ _ hx a b h
 hS:=λx y hx a c d=>by obtain⟨i,rfl,hx⟩:=mG hx;obtain⟨j,rfl,a⟩:=mG a;rw[IZ bs _ _ hx a c d]
def jU (l:List D):Prop:=l.Pairwise λa b=>bZ b a=Z6
theorem DD (x:D):∀l,(gL x l).Perm (x::l)
 | []=>.refl _
 |y::l=>by
  unfold gL;split
  .exact((DD x l).cons y).trans (.swap x y l)
  .exact .refl _
theorem DE:∀l,(z21 l).Perm l
 | []=>.refl _
 |x::l=>(DD x (z21 l)).trans ((DE l).cons x)
section
variable {p:D->Prop}(O:OrdOn p)
include O
theorem OrdOn.DF (hx:p x)(a:p y)(h:bZ x y=Z7):bZ y x=false:=by
 cases e:bZ y x with
 |false=>rfl
 |true=>have:=O.tr x y x hx a hx h e;rw[O.gU x hx]at this;cases this
theorem I0 (x:D)(hx:p x):∀l,(∀y∈l,p y)->jU l->jU (gL x l)
 | [],_,_=>jf _ _
 |y::l,hp,hs=>by
  have hy:=hp y (by simp);have hl:∀z∈l,p z:=λz hz=>hp z (by simp[hz]);obtain⟨h1,h2⟩:=dj.mp hs;unfold gL;split
  .rename_i hc;refine dj.mpr ⟨λz hz=>?_,I0 x hx l hl h2⟩;rcases ao.mp ((DD x l).mem_iff.mp hz)with rfl|hz
   .exact O.DF hy hx hc
   .exact h1 z hz
  .rename_i hc;refine dj.mpr ⟨λz hz=>?_,hs⟩;rcases(ao.mp hz)with rfl|hz
   .exact by simpa using hc
   .cases e:bZ z x with
    |false=>rfl
    |true=>
     rcases O.iG z y x (hl z hz) hy hx e with q|q
     .rw[h1 z hz]at q;cases q
     .exact(hc q).elim
theorem Ja:∀l,(∀y∈l,p y)->jU (z21 l)
 | [],_=>List.Pairwise.nil
 |x::l,a=>I0 O x (a x (by simp)) _ (λz b=>a z (by simp[(DE l).mem_iff.mp b])) (Ja l λz b=>a z (by simp[b]))
theorem Jb:∀{a b:List D},(∀y∈a,p y)->a.Perm b->jU a->jU b->a=b
 | [],b,_,c,_,_=>(c.symm.eq_nil).symm
 |x::a,[],_,c,_,_=>by have:=c.length_eq;simp at this
 |x::a,y::b,d,c,ha,hb=>by
  obtain⟨g,a2⟩:=dj.mp ha;obtain⟨h,i⟩:=dj.mp hb;have hx:=d x (by simp);have f:=d y (c.mem_iff.mpr (by simp))
  have e:x=y:=by
   refine O.hS x y hx f ?_ ?_
   .rcases ao.mp (c.mem_iff.mp (show x∈x::a by simp))with q|q
    .rw[<-q];exact O.gU x hx
    .exact h x q
   .rcases ao.mp (c.mem_iff.mpr (show y∈y::b by simp))with q|q
    .rw[<-q];exact O.gU y f
    .exact g y q
  subst e;rw[Jb (λz j=>d z (by simp[j])) (List.perm_cons x |>.mp c) a2 i]
def rank (ds:List D)(i:Nat):Nat:=ds.countP λd=>bZ d (ds.getD i .none)
omit O in
theorem Jc {q r:D->Bool}:∀(l:List D),(∀x∈l,q x=Z7->r x=Z7)->(∃x∈l,r x=Z7/\q x=Z6)->l.countP q<l.countP r
 | [],_,⟨_,h,_⟩=>by simp at h
 |x::l,h,⟨y,hy,h1,h2⟩=>by
  have hl:l.countP q<=l.countP r:=qu λz hz=>h z (by simp[hz]);rcases(ao.mp hy)with rfl|hy
  .rw[List.countP_cons_of_neg (by rw[h2];simp),List.countP_cons_of_pos h1];omega
  .have :=Jc l (λz hz=>h z (by simp[hz])) ⟨y,hy,h1,h2⟩;rw[List.countP_cons,List.countP_cons];have hx:=h x (by simp);cases e:q x with
   |true=>rw[hx e];simp;exact this
   |false=>simp;split<;>omega
theorem DG (b:∀d∈a,p d)(f:i<a.length)(g:j<a.length):decide (rank a i<rank a j)=bZ (a.getD i .none) (a.getD j .none):=by
 have l:a.getD i .none=a[i]:=by simp[f]
 have m:a.getD j .none=a[j]:=by simp[g]
 have c:=dq f;have k:=dq g;unfold rank;rw[l,m];cases e:bZ a[i] a[j]with
 |true=>rw[decide_eq_true_eq];exact Jc a (λx hx h=>O.tr x _ _ (b x hx) (b _ c) (b _ k) h e) ⟨a[i],c,e,O.gU _ (b _ c)⟩
 |false=>
  rw[decide_eq_false_iff_not]
  have:a.countP (λd=>bZ d a[j])<=a.countP λd=>bZ d a[i]:=qu λx hx h=>by
   rcases O.iG x _ _ (b x hx) (b _ c) (b _ k) h with q|q
   .exact q
   .rw[e]at q;cases q
  omega
theorem Jd (hp:∀d∈ds,p d)(hn:1<=ds.length):(runT (ltk (rank ds)) (kas_sort ds.length)).toList.map (λi=>ds.getD i .none)=z21 ds:=by
 obtain⟨h1,h2⟩:=Dz ds.length hn;generalize runT (ltk (rank ds)) (kas_sort ds.length)=q at h1 h2 ⊢;have hq:q.toList.Perm (d8 ds.length):=by simpa using h2.toList
 have mH:q.size=ds.length:=by rw[h2.size_eq];simp
 have qA:(q.toList.map λi=>ds.getD i .none).Perm ds:=by
  refine(hq.map _).trans ?_
  have:(d8 ds.length).map (λi=>ds.getD i .none)=ds:=by
   apply List.ext_getElem
   .simp
   .intro i h1 h2;simp;rw[aq (by simpa using h2)];rfl
  rw[this]
 refine Jb O (λy hy=>hp y (qA.mem_iff.mp hy)) (qA.trans (DE ds).symm) ?_ (Ja O ds hp);unfold jU;rw[lv,List.pairwise_iff_getElem];intro i j hi hj Yj;have Q3:i<ds.length:=by rw[<-mH];simpa using hi
 have hj':j<ds.length:=by rw[<-mH];simpa using hj
 have le:=h1.le (j-i) i (by omega);have e:i+(j-i)=j:=by omega
 rw[e]at le;have ki:Kp' (rank ds) q i=rank ds q.toList[i]:=by unfold Kp';rw[gj];simp[mH,Q3]
 have kj:Kp' (rank ds) q j=rank ds q.toList[j]:=by unfold Kp';rw[gj];simp[mH,hj']
 rw[<-DG O hp (by simpa using hq.mem_iff.mp (dq hj)) (by simpa using hq.mem_iff.mp (dq hi)),decide_eq_false_iff_not];omega
end
def qB (b:Bool)(x:D)(u:Value):Prop:=if b then ∃i t,x=.int i/\u=.int i t else ∃z t,x=.str z/\u=.str z t
theorem Je {K:Z5}(hx:ofK b x=Z7)(r:Rep K H B v x)(ru:RelV v u):qB b x u:=by
 cases b with
 |true=>obtain⟨i,rfl⟩:=kU hx;have e:=r;subst e;obtain⟨t,rfl⟩:=ru;exact⟨i,t,rfl,rfl⟩
 |false=>obtain⟨z,rfl⟩:=kW hx;have e:=r.1;subst e;obtain⟨t,rfl⟩:=ru;exact⟨z,t,rfl,rfl⟩
section
variable {prog:cw}{w:World}{A:gk}{E:Value->ay->Prop}{s:ay}{b:Bool}{x y:D}{u v:Value}{Q:Bool->ay->Prop}
theorem Q4 (a:qB b x u)(c:qB b y v)(q:Q (cc x y) s):wpAny (model prog w) A (eqBool u v) Q E s:=by
 cases b with
 |true=>obtain⟨i,t,rfl,rfl⟩:=a;obtain⟨j,d,rfl,rfl⟩:=c;exact wpAny_eqBool_int q
 |false=>
  obtain⟨i,t,rfl,rfl⟩:=a;obtain⟨j,d,rfl,rfl⟩:=c;refine wpAny_eqBool_str ?_;have e:cc (.str i) (.str j)=decide (i=j):=by show(i==j)=decide (i=j);apply j7.mpr;rw[beq_iff_eq,decide_eq_true_eq]
  rw[<-e];exact q
theorem Jf (c:Bool)(a:qB b x u)(d:qB b y v)(q:Q (bZ x y) s):wpAny (model prog w) A (oneLt' c u v) Q E s:=by
 cases b with
 |true=>
  obtain⟨i,t,rfl,rfl⟩:=a;obtain⟨j,e,rfl,rfl⟩:=d;cases c with
  |true=>exact oneLt_int q
  |false=>exact kat_one _ _ (PyProof.Rows.lt_int q)
 |false=>
  obtain⟨i,t,rfl,rfl⟩:=a;obtain⟨j,e,rfl,rfl⟩:=d;cases c with
  |true=>exact oneLt_str q
  |false=>exact kat_one _ _ (PyProof.Rows.lt_str q)
end
def jV:List Bool->List D->List Value->Prop
 | [],xs,us=>xs=[]/\us=[]
 |b::bs,xs,us=>∃x r u t,xs=x::r/\us=u::t/\ofK b x=Z7/\qB b x u/\jV bs r t
theorem DH {K:Z5}:∀{bs:List Bool} {d:List D} {f:List V} {g:List Value},cK bs d=Z7->Reps K H B f d->Vals f g->jV bs d g
 | [],d,f,g,h,r,rv=>by have e:=pZ h;subst e;subst r;cases rv;exact⟨rfl,rfl⟩
 |b::bs,d,f,g,h,r,rv=>by
  obtain⟨x,i,rfl,j,k⟩:=nA h;obtain⟨v,t,rfl,l,m⟩:=r;cases rv with
  |cons a c=>exact⟨x,i,_,_,rfl,rfl,j,Je j l a,DH k m c⟩
theorem Jg:∀{bs:List Bool} {a d:List D} {f g:List Value} i,jV bs a f->jV bs d g->Q (aF a d) s->KatLex prog w A b Z6 Q (f.zip g) i s
 | [],a,d,f,g,i,h,j,q=>by obtain⟨rfl,rfl⟩:=h;obtain⟨rfl,rfl⟩:=j;exact q
 |c::bs,a,d,f,g,i,h,j,q=>by
  obtain⟨x,a,u,f,rfl,rfl,hx,k,h⟩:=h;obtain⟨y,d,v,g,rfl,rfl,m,l,j⟩:=j;refine kat_cons (Q4 k l ?_);rw[yb]at q;cases e:cc x y with
  |true=>rw[e]at q;exact kat_yes (Jg (i+1) h j q)
  |false=>rw[e]at q;exact kat_no (Jf _ k l q)
theorem DI:∀{bs:List Bool} {c:List D} {a:List Value},jV bs c a->a.length=bs.length
 | [],_,_,h=>by rw[h.2];rfl
 |b::bs,_,_,h=>by obtain⟨x,r,u,t,rfl,rfl,_,_,h⟩:=h;rw[bz,bz,DI h]
theorem z0z.some (x:z0z P w H h a o):∃q,h.get? a=Z9 q:=by
 cases o with
 |lst b=>obtain⟨_,_,_,_,e⟩:=x;exact⟨_,e⟩
 |tup b=>obtain⟨_,_,_,_,e⟩:=x;exact⟨_,e⟩
 |dK kvs=>obtain⟨_,_,_,_,o,_,_,e,_⟩:=x;exact⟨_,e⟩
 |dT kvs=>obtain⟨_,_,_,_,o,_,_,e,_⟩:=x;exact⟨_,e⟩
 |set S n=>obtain⟨ob,es,ep,t,e,c⟩:=x;exact⟨_,e⟩
 |ins C dx fs=>obtain⟨d,z,ne,e,_⟩:=x;exact⟨_,e⟩
 |own y=>exact x
 |xd fs=>obtain⟨f,⟨od,es,ep,e,c⟩,r⟩:=x;exact⟨_,e⟩
 |frz ob u=>exact⟨_,x.1⟩
 |pN ps=>exact⟨_,x⟩
 |ext g=>obtain⟨p,⟨o,e⟩,st⟩:=x;exact⟨_,e⟩
theorem _root_.L2.Inv.laidF {D:Addr}(I:Inv X a y H s)(hm:s.heap.Ns X.env.locals m)(d:h.Ns X.env.locals m)
  (kp:∀b u,b≠X.env.locals->s.heap.get? b=Z9 u->h.get? b=Z9 u) (l:s.heap.get? D=Z8) (new:z0z X.prog X.w (upd H D o) h D o):Inv X a y (upd H D o) {s with heap:=h,toks:=t'}:=by
 have f:H D=none:=by
  cases e:H D with
  |none=>rfl
  |some u=>obtain⟨q,p⟩:=z0z.some (I.hok D u e);rw[l]at p;cases p
 refine I.step (ch:=[]) (λ_ z=>nomatch z) (λb q i _ _ e _=>kp b q i e) (λb q i _ _ e _=>⟨q.slots,kp b q i e⟩) (λb q _ e n=>?_) (λb q _ e=>?_) (λb r q=>by rw[aA (bY q f)];exact q) (λb u r q=>by rw[aA (bY q f)];exact q) (λb ps q=>⟨#[],by rw[aA (bY q f),q];simp⟩) (λB j=>?_) (λb u e=>?_) I.bare
 .rw[aA (λz=>by subst z;rw[l]at e;cases e)];exact n
 .by_cases g:b=X.env.locals
  .subst g;obtain⟨A,_,_,k,_⟩:=d;exact⟨A,k⟩
  .exact⟨q,kp b q g e⟩
 .rw[j.eq_nsMap,<-hm.eq_nsMap];exact d
 .by_cases g:b=D
  .subst g;rw[aO]at e;cases e;exact new
  .rw[aA g]at e;have t:∀c v,H c=Z9 v->c≠X.env.locals:=λc v x z=>by subst z;rw[I.free]at x;cases x
   refine(I.hok b u e).stay (λc v hc q=>kp c v ?_ q) (λc q=>by rw[aA (bY q f)];exact q) λc r q=>by rw[aA (bY q f)];exact q
   rcases hc with rfl|hc
   .exact t _ _ e
   .exact t _ _ hc
theorem DJ (r:Vals a b):∀(is:List Nat),(∀i∈is,i<a.length)->Vals (is.map λi=>a.getD i .bG) (is.map λi=>b.getD i Value.none)
 | [],_=>.nil
 |i::is,h=>by
  have c:=h i (by simp);obtain⟨u,hu,d⟩:=r.get (i:=i) (x:=a[i]) (by simp[c]);have e:a.getD i .bG=a[i]:=by simp[c]
  have f:b.getD i Value.none=u:=by rw[av,hu];rfl
  rw[aw,aw,e,f];exact .cons d (DJ r is λj g=>h j (by simp[g]))
theorem DK {K:Z5}(r:Reps K H B b a):∀(is:List Nat),(∀i∈is,i<a.length)->Reps K H B (is.map λi=>b.getD i .bG) (is.map λi=>a.getD i .none)
 | [],_=>rfl
 |i::is,h=>by
  have c:=h i (by simp);obtain⟨v,e,rv⟩:=r.get (i:=i) (d:=a[i]) (by simp[c]);have f:a.getD i .none=a[i]:=by simp[c]
  have g:b.getD i .bG=v:=by rw[av,e];rfl
  rw[aw,aw,f,g];exact Reps.cons rv (DK r is λj k=>h j (by simp[k]))
section
variable {X:Cx}
theorem z32 (O:OrdOn p)(I:Inv X E σ H s)
  (hl:s.heap.IsList a k.toArray) (rv:Vals R k) (Y:Reps X.K H B R f) (h2:2<=f.length) (DL:f.length<64) (S:∀d∈f,p d)
  (ask:∀t,(∀b o,b≠X.env.locals->s.heap.get? b=Z9 o->t.get? b=Z9 o)->wpAny (model X.prog X.w) X.A.in1.in1 (xg k.toArray) (λκ T=>T={s with heap:=t}/\∀i j C,i<f.length->j<f.length->C (bZ (f.getD i .none) (f.getD j .none)) {s with heap:=t}->kas_ask X.prog X.w X.A.in1.in1 κ k i j C {s with heap:=t}) (λ_ _=>False) {s with heap:=t})
  (q:∀w U,Same H U->Rep X.K U (λa=>nw H a\/(imms f=Z6/\B a)) w (.list (z21 f))->Q w U):
  wpAny (model X.prog X.w) X.A (call (.builtin "sorted") [.ref a]) (EP X E σ Q) X.xe s:=by
 have l1:=Y.length;have l2:=rv.length;obtain⟨m,F,_⟩:=id I.loc;refine kat_sorted ⟨F,I.bk,a8 I.ok.kK I.ok.above⟩ (G7) hl (by omega) (by omega) λD e1 t F' V G=>?_
 have r:∀{h:Heap} {o:Obj},Fr X.base X.env.locals h m->News X.base X.env.locals h ((D,o)::wC X.base s.heap X.env.locals)->∀b o,b≠X.env.locals->s.heap.get? b=Z9 o->h.get? b=Z9 o:=λl n b o hb e=>by
  cases W:X.base.get? b with
  |some u=>have:=I.bk b u W;rw[e]at this;cases this;exact l.keep b _ W
  |none=>exact(n (b,o) (b0 _ (BF hb W e))).1
 have J:=V (D,fg "list" #[] e1) bj
 have hD:s.heap.get? D=none:=by
  cases e:s.heap.get? D with
  |none=>rfl
  |some o=>exact absurd (G (D,o) (BF J.2.1 J.2.2 e)) (cu _)
 have v:H D=none:=by
  cases e:H D with
  |none=>rfl
  |some u=>obtain⟨q,hq⟩:=z0z.some (I.hok D u e);rw[hD]at hq;cases hq
 refine aN (ask t (r F' V)) λκ T zz=>?_;obtain⟨rfl,L⟩:=zz;have el:k.length=f.length:=by omega
 rw[el];refine DC (lt:=ltk (rank f)) (λi j C T x hj e hC=>?_) (kas_sort f.length) _ (IU (by omega)) rfl λT e=>?_
 .subst e;refine L i j C x hj ?_;rw[<-DG O S x hj];exact hC _ rfl
 .subst e;refine⟨_,_,F',V,.head (λp S=>cx (G p S)),λh c l n=>?_⟩;have M:=(n _ bj).1;have N:=Jd O S (by omega);obtain⟨_,g⟩:=Dz f.length (by omega);generalize runT (ltk (rank f)) (kas_sort f.length)=y at N g M ⊢;have P:∀i∈y.toList,i<f.length:=λi x=>by have:=(g.toList.mem_iff).mp x;simpa using this
  have Q5:(y.toList.map λi=>R.getD i .bG).length=f.length:=by have:=g.toList.length_eq;simpa using this
  have new:z0z X.prog X.w (upd H D (.lst (y.toList.map λi=>R.getD i .bG))) h D (.lst (y.toList.map λi=>R.getD i .bG)):=⟨by rw[bt];omega,_,c,DJ rv y.toList (λi x=>by rw[l1];exact P i x),M⟩;refine⟨.ref D,_,I.laidF (t':=s.toks) F l.ns (r l n) hD new,rfl,q _ _ (Same.upd v) ?_⟩;rw[<-N];exact oT v (DK (Reps.mF Y) y.toList P) (λ_ z=>z) (.inl v)
end
section
variable {X:Cx}
theorem Jh {K:Z5}(f:Reps K H B g b)(rv:Vals g a)(c:i<b.length):∃v,Rep K H B v (b.getD i .none)/\RelV v (a.getD i Value.none)/\a[i]?=Z9 (a.getD i Value.none):=by
 obtain⟨v,h,j⟩:=f.get (i:=i) (d:=b[i]) (by simp[c]);obtain⟨u,e,k⟩:=rv.get h;have l:b.getD i .none=b[i]:=by simp[c]
 have m:a.getD i Value.none=u:=by rw[av,e];rfl
 rw[l,m];exact⟨v,j,k,e⟩
theorem Q6 {dE:List Value}(h:u∈dE):∃i,i<dE.length/\dE.getD i Value.none=u:=by obtain⟨i,hi,e⟩:=my h;exact⟨i,hi,by rw[<-e];simp[hi]⟩
theorem z5v {s:ay}(b:Bool)(m:∀d∈c,ofK b d=Z7)(h:Reps X.K H B n c)(rv:Vals n a)(l:2<=c.length)(g:Heap):
  wpAny (model X.prog X.w) A (xg a.toArray) (λo p=>p={s with heap:=g}/\∀i j C,i<c.length->j<c.length->C (bZ (c.getD i .none) (c.getD j .none)) {s with heap:=g}->kas_ask X.prog X.w A o a i j C {s with heap:=g}) (λ_ _=>False) {s with heap:=g}:=by
 have hl:a.length=c.length:=by rw[<-rv.length,h.length]
 have sc:∀i,i<c.length->qB b (c.getD i .none) (a.getD i Value.none):=λi f=>by obtain⟨v,q,l,_⟩:=Jh h rv f;exact Je (m _ (by rw[av,aq f];exact dq f)) q l
 have ty:∀u∈a,Looks (model X.prog X.w) g (w6 u) (.type (if b then "int"else "str")):=λu hu=>by
  obtain⟨i,f,rfl⟩:=Q6 hu;have:=sc i (by omega);cases b with
  |true=>obtain⟨k,t,_,e⟩:=this;rw[e];exact Looks.of_pure rfl
  |false=>obtain⟨k,t,_,e⟩:=this;rw[e];exact Looks.of_pure rfl
 refine kas_kind (by omega) ty (by cases b<;>decide) (by cases b<;>decide) ⟨rfl,λi j C f r x=>?_⟩;exact Jf Z7 (sc i f) (sc j r) x
theorem zqq (I:Inv X m P H s)(kp:∀b o,s.heap.get? b=Z9 o->o.cls=.type "tuple"->b≠X.env.locals->w.get? b=Z9 o)(b:Bool)(bs:List Bool):
  ∀{j:List D} {i:List V} {e:List Value},(∀d∈j,zao (b::bs) d=Z7)->Reps X.K H B i j->Vals i e->∃fs,KatTups w e fs/\fs.length=e.length/\∀f∈fs,∃x,qB b x f
 | [],i,e,_,r,rv=>by subst r;cases rv;exact⟨[],trivial,rfl,λ_ z=>nomatch z⟩
 |y::j,i,e,p,r,rv=>by
  obtain⟨v,t,rfl,A,C⟩:=r;cases rv with
  |cons a c=>
   obtain⟨fs,E,F,G⟩:=zqq I kp b bs (λd hd=>p d (by simp[hd])) C c;obtain⟨Q,rfl,hs⟩:=mG (p y (by simp));obtain⟨J,ws,rfl,L,k⟩:=A;cases a;obtain⟨M,N,⟨o,ho,q,n,hd⟩,_⟩:=I.tuple L;have l:J≠X.env.locals:=by intro z;subst z;obtain⟨_,⟨R,es,ep,g,h,_⟩,_⟩:=id I.loc;rw[ho]at g;cases g;rw[hd]at h;cases h
   obtain⟨x,r,u,S,rfl,rfl,_,O,_⟩:=DH hs k N;exact⟨u::fs,KatTups.cons (kp _ _ ho q l) q hd (by simp) E,by simp[F],λf hf=>(ao.mp hf).elim (λz=>⟨x,by rw[z];exact O⟩) (G f)⟩
theorem zek (I:Inv X E σ H s)(b:Bool)(bs:List Bool)(F:∀d∈c,zao (b::bs) d=Z7)(r:Reps X.K H B N c)(rv:Vals N a)(h2:2<=c.length)(kp:∀b o,s.heap.get? b=Z9 o->o.cls=.type "tuple"->b≠X.env.locals->g.get? b=Z9 o):
  wpAny (model X.prog X.w) A (xg a.toArray) (λO P=>P={s with heap:=g}/\∀i j C,i<c.length->j<c.length->C (bZ (c.getD i .none) (c.getD j .none)) {s with heap:=g}->kas_ask X.prog X.w A O a i j C {s with heap:=g}) (λ_ _=>False) {s with heap:=g}:=by
 have hl:a.length=c.length:=by rw[<-rv.length,r.length]
 obtain⟨fs,Q,k2,R⟩:=zqq I kp b bs F r rv
 have ty:∀u∈fs,Looks (model X.prog X.w) g (w6 u) (.type (if b then "int"else "str")):=λu hu=>by
  obtain⟨x,this⟩:=R u hu;cases b with
  |true=>obtain⟨k,t,_,e⟩:=this;rw[e];exact Looks.of_pure rfl
  |false=>obtain⟨k,t,_,e⟩:=this;rw[e];exact Looks.of_pure rfl
 have part:∀i,i<c.length->∃h q o f n,a.getD i Value.none=.ref h/\c.getD i .none=.tuple q/\g.get? h=Z9 o/\o.data=.seq (lu f) n/\jV (b::bs) q f:=λi l=>by
  obtain⟨v,G,S,_⟩:=Jh r rv l;obtain⟨q,ex,hs⟩:=mG (F (c.getD i .none) (by rw[av,aq l];exact dq l));rw[ex]at G;obtain⟨h,ws,rfl,T,y⟩:=G;obtain⟨f,U,⟨o,ho,V,n,hd⟩,_⟩:=I.tuple T;have D:h≠X.env.locals:=by intro z;subst z;obtain⟨_,⟨o',es,ep,m,p,_⟩,_⟩:=id I.loc;rw[ho]at m;cases m;rw[hd]at p;cases p
  exact⟨h,q,o,f,n,S,ex,kp _ _ ho V D,hd,DH hs y U⟩
 refine kat_kind Q (by omega) ty (by cases b<;>decide) ⟨rfl,λi j C l W J=>?_⟩;obtain⟨ai,xi,oi,Y,ni,e1,e2,e3,e4,L⟩:=part i l;obtain⟨aj,xj,oj,jj,nj,f1,f2,f3,f4,M⟩:=part j W;show wpAny _ _ (keyLt' _ (a.getD i Value.none) (a.getD j Value.none)) C _ _;rw[e1,f1];refine kat_lt e3 e4 f3 f4 ?_;have ef:decide ((lu Y).size<(lu jj).size)=false:=by rw[bw,bw,DI L,DI M];simp
 rw[ef];rw[e2,f2]at J;exact Jg 0 L M J
end
structure iH (p:D->Prop):Prop extends OrdOn p where
 eq:∀x y,p x->p y->(cc x y=Z7↔x=y)
structure fY (q:List D->Prop):Prop where
 gU:∀x,q x->aF x x=Z6
 tr:∀x y z,q x->q y->q z->aF x y=Z7->aF y z=Z7->aF x z=Z7
 iG:∀x y z,q x->q y->q z->aF x z=Z7->aF x y=Z7\/aF y z=Z7
 hS:∀x y,q x->q y->aF x y=Z6->aF y x=Z6->x=y
 eq:∀x y,q x->q y->(ZW x y=Z7↔x=y)
section
variable {p:D->Prop}(O:iH p){x y z:D}{xs ys zs:List D}
include O
theorem fF (hx:p x)(a:p y)(h:x=y):aF (x::xs) (y::ys)=aF xs ys:=by rw[yb,xh ((O.eq x y hx a).mpr h)]
theorem dO (hx:p x)(a:p y)(h:x≠y):aF (x::xs) (y::ys)=bZ x y:=by rw[yb,xk λz=>h ((O.eq x y hx a).mp z)]
theorem yc (hx:p x)(hy:p y)(hz:p z)(ih:aF xs ys=Z7->aF ys zs=Z7->aF xs zs=Z7)(e1:aF (x::xs) (y::ys)=Z7)(e2:aF (y::ys) (z::zs)=Z7):aF (x::xs) (z::zs)=true:=by
 by_cases xy:x=y
 .rw[fF O hx hy xy]at e1;by_cases yz:y=z
  .rw[fF O hy hz yz]at e2;rw[fF O hx hz (xy.trans yz)];exact ih e1 e2
  .rw[dO O hy hz yz]at e2;rw[dO O hx hz (xy▸yz),xy];exact e2
 .rw[dO O hx hy xy]at e1;by_cases yz:y=z
  .rw[dO O hx hz (yz▸xy),<-yz];exact e1
  .rw[dO O hy hz yz]at e2;have e3:=O.tr x y z hx hy hz e1 e2;rw[dO O hx hz (λq=>by subst q;rw[O.gU x hx]at e3;cases e3)];exact e3
theorem Ji (hx:p x)(a:p y)(c:p z)(g:aF xs zs=Z7->aF xs ys=Z7\/aF ys zs=Z7)(e:aF (x::xs) (z::zs)=Z7):aF (x::xs) (y::ys)=Z7\/aF (y::ys) (z::zs)=true:=by
 by_cases d:x=z
 .rw[fF O hx c d]at e;by_cases b:x=y
  .rw[fF O hx a b,fF O a c (b.symm.trans d)];exact g e
  .rw[dO O hx a b,dO O a c (λq=>b (d.trans q.symm)),<-d];cases h:bZ x y with
   |true=>exact .inl rfl
   |false=>
    cases i:bZ y x with
    |true=>exact .inr rfl
    |false=>exact(b (O.hS x y hx a h i)).elim
 .rw[dO O hx c d]at e;by_cases b:x=y
  .rw[dO O a c (λq=>d (b.trans q)),<-b];exact .inr e
  .rw[dO O hx a b];by_cases f:y=z
   .rw[f];exact .inl e
   .rw[dO O a c f];exact O.iG x y z hx a c e
theorem Jj (hx:p x)(b:p y)(e:aF xs ys=Z6->aF ys xs=Z6->xs=ys)(c:aF (x::xs) (y::ys)=Z6)(d:aF (y::ys) (x::xs)=Z6):x::xs=y::ys:=by
 by_cases a:x=y
 .rw[fF O hx b a]at c;rw[fF O b hx a.symm]at d;rw[a,e c d]
 .rw[dO O hx b a]at c;rw[dO O b hx (λq=>a q.symm)]at d;exact(a (O.hS x y hx b c d)).elim
theorem Jk (hx:p x)(a:p y)(b:ZW xs ys=Z7↔xs=ys):ZW (x::xs) (y::ys)=Z7↔x::xs=y::ys:=by rw[ZW,bq,b,List.cons.injEq];exact and_congr (O.eq x y hx a) Iff.rfl
end
theorem fY.nil:fY (λl=>l=[]) where
 gU:=λx h=>by rw[h];exact Al
 tr:=λx y z a b c d f=>by rw[a,b]at d;cases d
 iG:=λx y z a b c e=>by rw[a,c]at e;cases e
 hS:=λx y a b _ _=>a.trans b.symm
 eq:=λx y a b=>by rw[a,b];exact⟨λ_=>rfl,λ_=>rfl⟩
theorem fY.cons {p:D->Prop}{q:List D->Prop}(O:iH p)(L:fY q):fY (λl=>∃x r,l=x::r/\p x/\q r) where
 gU:=λl h=>by obtain⟨x,r,rfl,hx,hr⟩:=h;rw[fF O hx hx rfl];exact L.gU r hr
 tr:=λl1 l2 l3 h1 h2 h3=>by obtain⟨x,r,rfl,hx,hr⟩:=h1;obtain⟨y,t,rfl,hy,ht⟩:=h2;obtain⟨z,u,rfl,hz,hu⟩:=h3;exact yc O hx hy hz (L.tr _ _ _ hr ht hu)
 iG:=λl1 l2 l3 h1 h2 h3=>by obtain⟨x,r,rfl,hx,hr⟩:=h1;obtain⟨y,t,rfl,hy,ht⟩:=h2;obtain⟨z,u,rfl,hz,hu⟩:=h3;exact Ji O hx hy hz (L.iG _ _ _ hr ht hu)
 hS:=λl1 l2 h1 h2=>by obtain⟨x,r,rfl,hx,hr⟩:=h1;obtain⟨y,t,rfl,hy,ht⟩:=h2;exact Jj O hx hy (L.hS _ _ hr ht)
 eq:=λl1 l2 h1 h2=>by obtain⟨x,r,rfl,hx,hr⟩:=h1;obtain⟨y,t,rfl,hy,ht⟩:=h2;exact Jk O hx hy (L.eq _ _ hr ht)
theorem Q7 (h:aF [] a=Z7):∃y r,a=y::r:=by
 cases a with
 |nil=>rw[Al]at h;cases h
 |cons y r=>exact⟨y,r,rfl⟩
theorem yd (y:D)(r:List D):aF [] (y::r)=true:=by simp[aF]
theorem Am (y:D)(r:List D):aF (y::r) []=false:=by simp[aF]
section
variable {p:D->Prop}(O:iH p)
include O
theorem Jl:∀a:List D,(∀x∈a,p x)->aF a a=Z6
 | [],_=>Al
 |x::a,h=>by rw[fF O (h x (by simp)) (h x (by simp)) rfl];exact Jl a λz b=>h z (by simp[b])
theorem ye:∀c d a:List D,(∀x∈c,p x)->(∀x∈d,p x)->(∀x∈a,p x)->aF c d=Z7->aF d a=Z7->aF c a=Z7
 | [],d,a,f,g,h,e,b=>by
  obtain⟨y,r,rfl⟩:=Q7 e;cases a with
  |nil=>rw[Am]at b;cases b
  |cons z t=>exact yd z t
 |x::c,[],a,f,g,h,e,b=>by rw[Am]at e;cases e
 |x::c,y::d,[],f,g,h,e,b=>by rw[Am]at b;cases b
 |x::c,y::d,z::a,f,g,h,e,b=>yc O (f x (by simp)) (g y (by simp)) (h z (by simp)) (ye c d a (λw i=>f w (by simp[i])) (λw i=>g w (by simp[i])) λw i=>h w (by simp[i])) e b
theorem Jm:∀c b a:List D,(∀x∈c,p x)->(∀x∈b,p x)->(∀x∈a,p x)->aF c a=Z7->aF c b=Z7\/aF b a=Z7
 | [],[],a,d,f,g,e=>.inr e
 | [],y::b,a,d,f,g,e=>.inl (yd y b)
 |x::c,b,[],d,f,g,e=>by rw[Am]at e;cases e
 |x::c,[],z::a,d,f,g,e=>.inr (yd z a)
 |x::c,y::b,z::a,d,f,g,e=>Ji O (d x (by simp)) (f y (by simp)) (g z (by simp)) (Jm c b a (λw h=>d w (by simp[h])) (λw h=>f w (by simp[h])) λw h=>g w (by simp[h])) e
theorem Jo:∀a b:List D,(∀x∈a,p x)->(∀x∈b,p x)->aF a b=Z6->aF b a=Z6->a=b
 | [],[],e,f,c,d=>rfl
 | [],y::b,e,f,c,d=>by rw[yd]at c;cases c
 |x::a,[],e,f,c,d=>by rw[yd]at d;cases d
 |x::a,y::b,e,f,c,d=>Jj O (e x (by simp)) (f y (by simp)) (Jo a b (λw g=>e w (by simp[g])) λw g=>f w (by simp[g])) c d
theorem yf:∀a b:List D,(∀x∈a,p x)->(∀x∈b,p x)->(ZW a b=Z7↔a=b)
 | [],[],c,d=>⟨λ_=>rfl,λ_=>rfl⟩
 | [],y::b,c,d=>⟨λh=>by simp[ZW]at h,λh=>nomatch h⟩
 |x::a,[],c,d=>⟨λh=>by simp[ZW]at h,λh=>nomatch h⟩
 |x::a,y::b,c,d=>Jk O (c x (by simp)) (d y (by simp)) (yf a b (λw e=>c w (by simp[e])) λw e=>d w (by simp[e]))
theorem fY.all:fY (λl=>∀x∈l,p x):=⟨Jl O,ye O,Jm O,Jo O,yf O⟩
end
theorem fY.tup {q:List D->Prop}(L:fY q):iH (λd=>∃l,d=.tuple l/\q l) where
 gU:=λd h=>by obtain⟨l,rfl,h⟩:=h;exact L.gU l h
 tr:=λx y z a b c=>by obtain⟨l,rfl,a⟩:=a;obtain⟨m,rfl,b⟩:=b;obtain⟨n,rfl,c⟩:=c;exact L.tr l m n a b c
 iG:=λx y z a b c=>by obtain⟨l,rfl,a⟩:=a;obtain⟨m,rfl,b⟩:=b;obtain⟨n,rfl,c⟩:=c;exact L.iG l m n a b c
 hS:=λx y a b e f=>by obtain⟨l,rfl,a⟩:=a;obtain⟨m,rfl,b⟩:=b;rw[L.hS l m a b e f]
 eq:=λx y a b=>by obtain⟨l,rfl,a⟩:=a;obtain⟨m,rfl,b⟩:=b;show ZW l m=Z7↔_;rw[L.eq l m a b];exact⟨λh=>by rw[h],λh=>by cases h;rfl⟩
theorem iH.of (O:iH q)(h:∀d,p d->q d):iH p where
 gU:=λx hx=>O.gU x (h x hx)
 tr:=λx y z hx a b=>O.tr x y z (h x hx) (h y a) (h z b)
 iG:=λx y z hx a b=>O.iG x y z (h x hx) (h y a) (h z b)
 hS:=λx y hx a=>O.hS x y (h x hx) (h y a)
 eq:=λx y hx a=>O.eq x y (h x hx) (h y a)
section
variable {X:Cx}
theorem zcp (hu:X.A.units+64<cLine)(I:Inv X i σ H s)(r:Vals xs us)(hx:xs=[x])(G:Rep X.K H B x J)(e:z58 J=.ok (Z7,f))(l:aggD "sorted" Z7 f=.ok d)
  (q:∀w m,Same H m->Rep X.K m (λa=>nw H a\/(imms f=Z6/\B a)) w d->Q w m):wpAny (model X.prog X.w) X.A (call (.builtin "sorted") us) (EP X i σ Q) X.xe s:=by
 subst hx;obtain⟨a,L,rfl,p,g⟩:=pY G e;simp only[aggD,show("sorted":String)≠"list" by decide,show("sorted":String)≠"tuple" by decide,if_true,if_false]at l;split at l
 case isFalse=>cases l
 rename_i E;cases l;simp at E;obtain⟨hs,h⟩:=E;obtain⟨u,rfl,rfl⟩:=vals1 r;obtain⟨j,rv,pl,M⟩:=I.list p;have N:j.length=f.length:=by rw[<-rv.length,g.length]
 by_cases t:f.length<2
 .refine z7q pl.isList (by omega) λD k n F kp ho=>?_;have v:=I.hok.fresh F;refine⟨.ref D,_,I.laid (o:=.lst L) (t':=s.toks) kp F ⟨M,j,n,rv,ho⟩,rfl,q _ _ (Same.upd v) ?_⟩
  have es:z21 f=f:=by
   match f,t with
   | [],_=>rfl
   | [y],_=>rfl
   |_::_::_,t=>simp at t;omega
  rw[es];exact oT v (Reps.mF g) (λ_ z=>z) (.inl v)
 .have c:2<=f.length:=by omega
  replace hs:=(i4 _ _).mp hs;rcases hs with hs|hs
  case inr=>cases hs
  unfold mZ at hs;simp at hs;rcases hs with(hs|hs)|hs
  .exact z32 oV I pl.isList rv g c h hs (λk kp=>z5v Z7 hs g rv c k) q
  .exact z32 oW I pl.isList rv g c h hs (λk kp=>z5v Z6 hs g rv c k) q
  .split at hs
   case h_2=>cases hs
   rename_i O _;simp only[bq,bg,jt]at hs;obtain⟨C,hs⟩:=hs;cases O with
   |nil=>cases C
   |cons R S=>exact z32 (sD _) I pl.isList rv g c h hs (λk kp=>zek I _ _ hs g rv c λb o e _ P=>kp b o P e) q
end
section
variable {X:Cx}
theorem Q8 (m:X.calm=Z7):CallR X (.builtin "any") (λj H Q=>∃(p:Addr) (bs:List Bool),j=[.ref p]/\SqL X.K H p (bs.map V.bl)/\Q (.bl (bs.any id)) H):=by
 rintro l s D H j E Q I r ⟨p,bs,rfl,n,q⟩
 obtain⟨u,rfl,rfl⟩:=vals1 r;obtain⟨c,rv,pl,F⟩:=I.list n;refine call_any_walk (jp pl.isList ?_);have ne:p≠s.heap.objs.size:=by obtain⟨o,ho,_⟩:=pl.isList;exact cx (bh ho)
 have a:=by have:=rv.length;rw[ae]at this;exact this
 refine⟨s.heap.objs.size,_,_,_,_,_,λi=>bs.getD i Z6,rfl,Walks.list (A:=X.A.in1) (I.ok.hd m) s.heap.objs.size p ne c.toArray,⟨⟨_,ax _ rfl,rfl,rfl⟩,pl.isList.at λo e=>ah _ e⟩,?_,?_⟩
 .intro i v t w G x y;have d:c[i]?=Z9 v:=by simpa using x
  have hb:i<bs.length:=a▸(br.mp d).1;obtain⟨J,hu,B⟩:=rv.get (by rw[ba,aq hb];rfl);rw[d]at hu;cases hu;cases B;refine gm ?_;have e:bs.getD i Z6=bs[i]:=by simp[av,hb]
  have f:w (bs.getD i Z6) t:=y;rw[e]at f;exact f
 .intro L M k;refine⟨.bl (bs.any id),H,I.kept λb o e=>?_,?_,q⟩
  .refine k b o (λz=>?_) (ah _ e);have C:b=s.heap.objs.size:=by simpa using z
   exact absurd (bh e) (C▸cu _)
  .have e:(d8 c.toArray.size).any (fun i=>bs.getD i Z6)=bs.any id:=by
    rw[bw,<-a];apply j7.mpr;simp only[gh];constructor
    .rintro⟨i,d,h⟩
     have g:i<bs.length:=by simpa using d
     exact⟨bs[i],dq g,by simpa[av,g]using h⟩
    .rintro⟨b,hb,h⟩
     have⟨i,d,ei⟩:=my hb;subst ei;exact⟨i,by simpa using d,by simpa[av,d]using h⟩
   rw[e];rfl
theorem Q9 (f:X.calm=Z7):CallR X (.builtin "any") (rAgg X.K "any"):=by
 refine CallR.imp (Q8 f) λj H Q h=>?_;obtain⟨B,x,k,l,g,d,rfl,r,e,b,q⟩:=h;obtain⟨a,m,rfl,h,i⟩:=pY r e;simp only[aggD,show("any":String)≠"list" by decide,show("any":String)≠"tuple" by decide,show("any":String)≠"sorted" by decide,show("any":String)≠"sum" by decide,show("any":String)≠"all" by decide,if_true,if_false]at b;cases l with
 |false=>cases b
 |true=>
  cases c:allB g with
  |none=>rw[c]at b;cases b
  |some bs=>rw[c]at b;cases b;have ev:=Dx c i;subst ev;exact⟨a,bs,rfl,h,q _ H (Same.refl H) rfl⟩
end
section
variable {X:Cx}{pins yg:List (Addr×Obj)}{σ Ra:L2.St}{H H0:Hp}{s s0:ay}{d:Addr}{o:Obj}{kvs DM:List (Key×V)}
theorem yh (n:H b=Z8)(e:∃v,H d=Z9 v):upd H d u b=none:=by obtain⟨v,e⟩:=e;rw[aA (λz=>by subst z;rw[n]at e;cases e)];exact n
theorem _root_.L2.Inv.freeze (I:Inv X pins σ H s)(e:H d=Z9 (.dK kvs))(ho:s.heap.get? d=Z9 o):Inv X pins σ (upd H d (.frz o (.dK kvs))) s:=by
 have nd:∀b v,H b=Z9 v->v≠.dK kvs->upd H d (.frz o (.dK kvs)) b=Z9 v:=λb v q f=>by rw[aA (λz=>by subst z;rw[e]at q;cases q;exact f rfl)];exact q
 have stay:∀b u,z0z X.prog X.w H s.heap b u->z0z X.prog X.w (upd H d (.frz o (.dK kvs))) s.heap b u:=λb u x=>x.stay (λc v _ q=>q) (λc q=>nd c _ q (λz=>nomatch z)) λc a q=>nd c _ q (λz=>nomatch z)
 exact I.step (ch:=[]) (λ_ z=>nomatch z) (λb q _ _ _ e _=>e) (λb q _ _ _ e _=>⟨q.slots,e⟩) (λb q _ _ n=>yh n ⟨_,e⟩) (λb q _ e=>⟨q,e⟩)
  (λb a q=>nd b _ q (λz=>nomatch z)) (λb u a q=>nd b _ q (λz=>nomatch z)) (λb ps q=>⟨#[],by rw[nd b _ q (λz=>nomatch z)];simp⟩) (λm h=>h) (λb u q=>by
   by_cases hb:b=d
   .subst hb;rw[aO]at q;cases q;exact⟨ho,stay b _ (I.hok b _ e)⟩
   .rw[aA hb]at q;exact stay b u (I.hok b u q)) I.bare
theorem _root_.L2.Inv.gW (j:Inv X yg Ra H0 s0)(k:H0 d=Z9 (.dK DM))(I:Inv X pins σ H s)(e:H d=Z9 (.frz o (.dK kvs))):Inv X pins σ (upd H d (.dK kvs)) s:=by
 have nd:∀b v,H b=Z9 v->v≠.frz o (.dK kvs)->upd H d (.dK kvs) b=Z9 v:=λb v q l=>by rw[aA (λz=>by subst z;rw[e]at q;cases q;exact l rfl)];exact q
 have stay:∀b u,z0z X.prog X.w H s.heap b u->z0z X.prog X.w (upd H d (.dK kvs)) s.heap b u:=λb u x=>x.stay (λc v _ q=>q) (λc q=>nd c _ q (λz=>nomatch z)) λc i q=>nd c _ q (λz=>nomatch z);refine⟨I.ok,I.os,I.bare,⟨I.base.keep,I.base.slot,λb q a g m=>yh (I.base.free b q a g m) ⟨_,e⟩,I.base.there,λb i q=>nd b _ (I.base.eZ b i q) (λz=>nomatch z),λb u v q=>?_,λb ps q=>?_⟩,I.loc,I.cell,yh I.free ⟨_,e⟩,λx c h=>yh (I.bQ x c h) ⟨_,e⟩,λp n=>?_,λb u q=>?_,I.len,I.fx⟩
 .have a:=I.base.eA b u v q;have g:=j.base.eA b u v q;rw[aA (λz=>by subst z;rw[k]at g;cases g)];exact a
 .obtain⟨f,a⟩:=I.base.fA b ps q;exact⟨f,nd b _ a (λz=>nomatch z)⟩
 .obtain⟨r,a2,a3⟩:=I.pin p n;exact⟨r,yh a2 ⟨_,e⟩,a3⟩
 .by_cases hb:b=d
  .subst hb;rw[aO]at q;cases q;exact stay b _ (I.hok b _ e).2
  .rw[aA hb]at q;exact stay b u (I.hok b u q)
end
def An (d:Addr)(o:Obj)(kvs:List (Key×V)):It:=⟨λi H=>H d=Z9 (.frz o (.dK kvs))/\i<kvs.length,λi H x H'=>∃p k v,kvs[i]?=Z9 (k,v)/\H p=Z8/\x=.ref p/\H'=upd H p (.tup [kV k,v]),λi H=>H d=Z9 (.frz o (.dK kvs))/\kvs.length<=i⟩
section
variable {X:Cx}{pins:List (Addr×Obj)}{σ:L2.St}{H:Hp}{s:ay}
theorem z48 (I:Inv X pins σ H s)(e:H d=Z9 (.frz o (.dK f)))(hd:o.data=.dict es ep):
  ∃c,KV f c/\s.heap.DictAt (eM X.prog X.w) d c ep/\(d==jk)=Z6/\s.heap.get? d=Z9 o:=by
 obtain⟨g,_,hs,c,rel,k,h,i,b,j,a,r⟩:=I.hok d _ e;rw[g]at b;cases b;rw[hd]at a;cases a;exact⟨c,rel,⟨_,_,g,j,hd,r⟩,hs,g⟩
theorem _root_.L2.Inv.turnedT (I:Inv X pins σ H s)(f:FpOk X pins H d)(k:∀b q,b≠d->s.heap.get? b=Z9 q->i.get? b=Z9 q)(j:s.heap.objs.size<=p)(y:∃q,i.get? d=Z9 q)
  (new:z0z X.prog X.w (upd H p (.tup g)) i p (.tup g)):Inv X pins σ (upd H p (.tup g)) {s with heap:=i,toks:=t'}:=by
 obtain⟨o,l,A,r,t,x⟩:=f;have hn:=I.hok.fresh j;have h:∀b u,H b=Z9 u->b≠d:=λb u e z=>by rw[z,o]at e;cases e
 refine I.step (ch:=[d]) (λb hb=>?_) (λb q _ _ a e _=>k b q (λz=>a (by simp[z])) e) (λb q _ _ a e _=>⟨q.slots,k b q (λz=>a (by simp[z])) e⟩) (λb q _ e n=>by rw[aA (cx (cf (bh e) j))];exact n) (λb q a e=>⟨q,k b q (λz=>a (by simp[z])) e⟩) (λb g q=>by rw[aA (bY q hn)];exact q) (λb u g q=>by rw[aA (bY q hn)];exact q) (λb ps q=>⟨#[],by rw[aA (bY q hn),q];simp⟩) (λm hm=>?_) (λb u e=>?_) I.bare
 .have e:b=d:=by simpa using hb
  subst e;exact⟨r,l,t,x⟩
 .exact hm.at λq e=>k _ q (Ne.symm l) e
 .by_cases hb:b=p
  .subst hb;rw[aO]at e;cases e;exact new
  .rw[aA hb]at e;refine(I.hok b u e).stay (λc v a q=>k c v ?_ q) (λc q=>by rw[aA (bY q hn)];exact q) λc g q=>by rw[aA (bY q hn)];exact q
   rcases a with rfl|a
   .exact h _ _ e
   .exact h _ _ a
end
theorem DN (r:KV kvs c){i:Nat}(h:kvs[i]?=Z9 (k,v)):∃u,c[i]?=Z9 (k,u)/\RelV v u:=by
 induction r generalizing i with
 |nil=>simp at h
 |cons a b d=>
  cases i with
  |zero=>cases h;rename_i e _ _;obtain⟨g,f⟩:=e;obtain⟨rfl,a2⟩:=a;exact⟨f,rfl,a2⟩
  |succ i=>exact d h
theorem DO (h:(eM P w).is k u=Z7):RelV (kV k) u:=by
 rcases mX h with⟨i,t,rfl,rfl⟩|⟨x,t,rfl,rfl⟩
 .exact⟨t,rfl⟩
 .exact⟨t,rfl⟩
theorem zb8 {K:Z5}(hd:o.data=.dict es ep):
  Turn P w K (.Tuple N x1 pos) (An d o f) [j] j (λi h=>∃ok ov,IsItemIter h j d i f.length ep ok ov) where
 mem:=by simp
 obj:=λi h st b hb=>by
  have e:b=j:=by simpa using hb
  subst e;obtain⟨ok,ov,h⟩:=st;exact⟨_,h,λv z=>by cases z⟩
 keep:=λi h O st k=>by obtain⟨ok,ov,e⟩:=st;exact⟨ok,ov,k j (by simp) _ e⟩
 item:=by
  intro X C D F Q i p s S H E I hf st G;subst C D F;obtain⟨l,J⟩:=G;obtain⟨ok,ov,c⟩:=st;obtain⟨T,rel,m,r,L⟩:=z48 I l hd;have a:=rel.length;obtain⟨u,hu,U⟩:=DN rel (i:=i) (k:=f[i].1) (v:=f[i].2) (by simp[J]);rw[a]at c;refine wpAny_pyNext_items_item c m hu λkey O t x y R kp=>⟨_,rfl,wpAny_letOwnedTupleGo_items x λM g hs=>?_⟩;have A:=hf j (by simp);have B:s.heap.objs.size≠j:=λz=>by have:=bh c;rw[z]at this;exact cu _ this
  have n:M.get? s.heap.objs.size=Z9 {cls:=.type "tuple",data:=.seq #[key,u]}:=(hs.2 _ B).trans y;have V:=I.turnedT (t':=s.toks) A (λb q hb e=>(hs.2 b hb).trans (kp b q hb e)) (af _) ⟨_,g⟩ ⟨by rw[bt];simp,[key,u],.cons (DO t) (.cons U .nil),0,n⟩;refine⟨.ref s.heap.objs.size,_,V,rfl,⟨_,f[i].1,f[i].2,by simp[J],I.hok.fresh (af _),rfl,rfl⟩,⟨_,_,by rw[a];exact g⟩,λb hb=>?_⟩;have e:b=j:=by simpa using hb
  subst e;rw[aA (Ne.symm B)];exact A.1
 done:=by intro X C D F Q i p s S H E I hf st G;subst C D F;obtain⟨l,J⟩:=G;obtain⟨ok,ov,c⟩:=st;obtain⟨T,rel,m,r,L⟩:=z48 I l hd;have a:=rel.length;rw[a]at c;obtain⟨Y,Z,f2,f3,f4,f5⟩:=hf j (by simp);exact wpAny_pyNext_items_end (I.ok.hd Q) c m (qv (by omega)) λO eb=>⟨rfl,I.turned (λb o hb e=>eb b o hb e) Y Z f3 f4 f5⟩
 self:=λ_ _ _ _ _ ⟨ok,ov,st⟩ h=>W.kcp_self st h
theorem REs.at {K:Z5}:∀{kvs:List (Key×V)} {es:bA} {i:Nat} {k:Key} {v:V},REs K H B kvs es->kvs[i]?=Z9 (k,v)->∃d,es[i]?=Z9 (kD k,d)/\keyOk k/\Rep K H B v d
 |kvs,[],i,k,v,r,e=>by have:kvs=[]:=r;subst this;simp at e
 |kvs,(kd,d)::es,i,k,v,r,e=>by
  obtain⟨c,f,t,rfl,rfl,ok,a,b⟩:=r;cases i with
  |zero=>cases e;exact⟨d,rfl,ok,a⟩
  |succ i=>rw[la]at e ⊢;exact REs.at b e
theorem Jp {K:Z5}(ok:keyOk k):Rep K H B (kV k) (kD k):=by
 cases k with
 |inl i=>exact rfl
 |inr x=>exact⟨rfl,ok⟩
section
variable {X:Cx}
def Rb (i:Nat):TI:=λσ H R=>∃d o kvs es ep,σ[i]?=Z9 (Z9 (.ref d))/\H d=Z9 (.frz o (.dK kvs))/\o.data=.dict es ep/\R (An d o kvs) H
theorem zfp (hN:X.N[i]?=Z9 x)(hv:Vis X.env.scope x)(hdb:YC x)(hcd:(x==("__classdict__":Str))=Z6)(hline:(ap.endLine==cp.line)=Z7):
  PI X (.Tuple elts x1 tp) (.Call (.Attribute (.Name x p) "items" ap) [] [] cp) (Rb i):=by
 rintro pins s σ H R I ⟨d,o,kvs,es,ep,hσ,Jq,hd,q⟩
 refine uz rfl rfl hline PySem.F.plainAttrs_dict PySem.F.slot_dict_items PySem.F.type_dict_items (aN (nW hN hv hdb hcd pins s σ H (λv H1=>v=.ref d/\H1=H) I ⟨_,hσ,rfl,rfl⟩) λov s1 zz=>?_);obtain⟨y,H1,I1,r1,ey,eH⟩:=zz;subst ey eH;cases r1;obtain⟨vs,rel,Rc,oY,Yk⟩:=z48 I1 Jq hd;have oZ:s1.heap.DictOf (eM X.prog X.w) d vs:=let⟨o',uX,ho',r⟩:=Rc;⟨o',uX,ep,ho',r⟩;refine⟨oZ.typeIs,oZ.mapOf.noDict,?_⟩;refine method_meetsIn PySem.F.slot_dict_items PySem.F.entry_dict_items rfl (PySem.evalArgs_none ⟨rfl,oZ.typeIs,PySem.F.args_dict_items_1 _,_,meets_dict_items (eM X.prog X.w) d oY,⟨vs,oZ⟩,?_⟩);have I2:Inv X pins σ H1 {s1 with heap:=s1.heap.push {cls:=.type "dict_items",data:=.fields #[.ref d]}}:=I1.kept λb q e=>ah _ e;obtain⟨Rf,DP,DQ,_,_⟩:=z48 I2 Jq hd;refine wpAny_pyIter_items ⟨_,ax _ rfl,rfl,rfl⟩ DQ ?_;refine⟨_,[_],_,An d o kvs,H1,rfl,I2.kept λb q e=>ah _ e,zb8 hd,⟨.none,.none,?_⟩,λb hb=>?_,q⟩
 .rw[show kvs.length=Rf.length from DP.length];exact ax _ rfl
 .have e:b=_:=ak.mp hb;subst e;exact I2.eN (af _) (I2.hok.fresh (af _))
end
section
variable {X:Cx}
theorem Rg {K:Z5}{i:Nat}(so:StOk K F H k l)(e:l[i]?=Z9 (Z9 (g,.dict es))):∃d a B,k[i]?=Z9 (Z9 (.ref d))/\H d=Z9 (.dK a)/\F.V d/\REs K H B a es:=by
 obtain⟨v,f,j⟩:=so.sl i g _ e;cases g with
 |fr=>
  obtain⟨p,rfl,ho,h⟩:=j;rcases h with⟨_,_,z,_⟩|⟨a,m,z,c,r⟩
  .cases z
  .cases z;exact⟨p,a,_,f,c,(so.own p i ho).2.1,r⟩
 |od=>obtain⟨p,a,rfl,c,b,r⟩:=j;exact⟨p,a,_,f,c,b.2,r⟩
 |al=>obtain⟨p,a,rfl,c,b,r⟩:=j;exact⟨p,a,_,f,c,b,r⟩
 |nu=>obtain⟨p,a,rfl,c,b,r⟩:=j;exact⟨p,a,_,f,c,b.2.2,r⟩
end
section
variable {X:Cx}{pins:List (Addr×Obj)}{σ:L2.St}{H:Hp}{s:ay}
theorem _root_.L2.Inv.yi (I:Inv X d k H s)(f:FpOk X d H a)(new:z0z X.prog X.w (upd H a u) s.heap a u):Inv X d k (upd H a u) s:=by
 obtain⟨g,l,t,o,p,r⟩:=f
 exact I.step (ch:=[a]) (fun b i=>by
   have e:b=a:=by simpa using i
   subst e;exact⟨o,l,p,r⟩) (λb q _ _ _ e _=>e) (λb q _ _ _ e _=>⟨q.slots,e⟩) (λb q hc _ n=>by rw[aA (λz=>hc (by simp[z]))];exact n) (λb q _ e=>⟨q,e⟩)
  (λb j q=>by rw[aA (bY q g)];exact q) (λb v j q=>by rw[aA (bY q g)];exact q) (λb ps q=>⟨#[],by rw[aA (bY q g),q];simp⟩) (λm h=>h) (λb v e=>by
   by_cases i:b=a
   .subst i;rw[aO]at e;cases e;exact new
   .rw[aA i]at e;exact(I.hok b v e).stay (λc w _ q=>q) (λc q=>by rw[aA (bY q g)];exact q) λc j q=>by rw[aA (bY q g)];exact q) I.bare
theorem z85:∀(l:List (Addr×List V)) {H:Hp},Inv X d k H s->(l.map (·.1)).Nodup->(∀q∈l,FpOk X d H q.1)->(∀q∈l,q.2.length<=bb/\∃f,Vals q.2 f/\TupN s.heap q.1 f.toArray)->
  ∃e,Inv X d k e s/\Same H e/\(∀q∈l,e q.1=Z9 (.tup q.2))/\∀a,a∉l.map (·.1)->e a=H a
 | [],H,I,_,_,_=>⟨H,I,Same.refl H,(λq c=>absurd c (by simp)),λ_ _=>rfl⟩
 |(a,g)::l,H,I,nd,hf,i=>by
  rw[aw,ci]at nd;have fa:=hf (a,g) (by simp);obtain⟨e,m,sm,n,j⟩:=z85 l (I.yi (u:=.tup g) fa (i (a,g) (by simp))) nd.2 (λq c=>by obtain⟨o,r⟩:=hf q (by simp[c]);exact⟨by rw[aA ((λq c z=>nd.1 (au.mpr ⟨q,c,z⟩)) q c)];exact o,r⟩) λq c=>i q (by simp[c]);refine⟨e,m,(Same.upd fa.1).trans sm,λq c=>?_,λb h=>?_⟩
  .rcases ao.mp c with p|c;subst p
   .rw[j a nd.1];exact aO
   .exact n q c
  .rw[aw,ao,not_or]at h;rw[j b h.2,aA h.1]
theorem _root_.L2.Inv.writeF {D:Addr}(I:Inv X pins σ H s)(g:H D=Z9 (.lst f))(hm:s.heap.Ns X.env.locals m)(a:h.Ns X.env.locals m)
  (kp:∀b u,b≠X.env.locals->b≠D->s.heap.get? b=Z9 u->h.get? b=Z9 u) (new:z0z X.prog X.w (upd H D (.lst i)) h D (.lst i)):Inv X pins σ (upd H D (.lst i)) {s with heap:=h,toks:=t'}:=by
 have nd:∀b v,H b=Z9 v->v≠.lst f->upd H D (.lst i) b=Z9 v:=λb v q r=>by rw[aA (λz=>by subst z;rw[g]at q;cases q;exact r rfl)];exact q
 have ne:∀b,H b=Z8->b≠D:=λb n z=>by subst z;rw[g]at n;cases n
 have o:∀c v,H c=Z9 v->c≠X.env.locals:=λc v p z=>by subst z;rw[I.free]at p;cases p
 refine I.step (ch:=[]) (λ_ z=>nomatch z) (λb q j _ _ e n=>kp b q j (ne b n) e) (λb q j _ _ e n=>⟨q.slots,kp b q j (ne b n) e⟩) (λb q _ e n=>by rw[aA (ne b n)];exact n) (λb q _ e=>?_) (λb f q=>nd b _ q (λz=>nomatch z)) (λb u f q=>nd b _ q (λz=>nomatch z)) (λb ps q=>⟨#[],by rw[nd b _ q (λz=>nomatch z)];simp⟩) (λy k=>?_) (λb u e=>?_) I.bare
 .by_cases hb:b=X.env.locals
  .subst hb;obtain⟨t,_,_,l,_⟩:=a;exact⟨t,l⟩
  .by_cases hd:b=D
   .subst hd;obtain⟨_,_,_,_,x⟩:=new;exact⟨_,x⟩
   .exact⟨q,kp b q hb hd e⟩
 .rw[k.eq_nsMap,<-hm.eq_nsMap];exact a
 .by_cases hb:b=D
  .subst hb;rw[aO]at e;cases e;exact new
  .rw[aA hb]at e;refine(I.hok b u e).stay (λc v d q=>?_) (λc q=>nd c _ q (λz=>nomatch z)) λc f q=>nd c _ q (λz=>nomatch z);rcases d with rfl|d
   .exact kp _ v (o _ _ e) hb q
   .exact kp c v (o _ _ d) (λz=>by subst z;rw[g]at d;cases d) q
def Rh (i:Nat):TE:=λσ H Q=>∃d kvs,σ[i]?=Z9 (Z9 (.ref d))/\H d=Z9 (.dK kvs)/\∀p,H p=Z8->Q (.ref p) (upd H p (.ext λh=>h.IsItemsView p d))
theorem zfx (hN:X.N[i]?=Z9 x)(hv:Vis X.env.scope x)(hdb:YC x)(hcd:(x==("__classdict__":Str))=Z6)(hline:(ap.endLine==cp.line)=Z7):
  PE X (.Call (.Attribute (.Name x p) "items" ap) [] [] cp) (Rh i):=by
 rintro pins s σ H Q I ⟨d,kvs,hσ,hd,q⟩
 refine uz rfl rfl hline PySem.F.plainAttrs_dict PySem.F.slot_dict_items PySem.F.type_dict_items (aN (nW hN hv hdb hcd pins s σ H (λv H1=>v=.ref d/\H1=H) I ⟨_,hσ,rfl,rfl⟩) λov s1 zz=>?_);obtain⟨y,H1,I1,r1,ey,eH⟩:=zz;subst ey eH;cases r1;obtain⟨_,oY,vs,rel,oZ⟩:=pS I1.hok hd;refine⟨oZ.typeIs,oZ.mapOf.noDict,?_⟩;refine method_meetsIn PySem.F.slot_dict_items PySem.F.entry_dict_items rfl (PySem.evalArgs_none ⟨rfl,oZ.typeIs,PySem.F.args_dict_items_1 _,_,meets_dict_items (eM X.prog X.w) d oY,⟨vs,oZ⟩,?_⟩);refine⟨.ref s1.heap.objs.size,_,I1.laid (o:=.ext λh=>h.IsItemsView s1.heap.objs.size d) (λ_ _ q=>ah _ q) (af _) ⟨⟨_,ax _ rfl,rfl,rfl⟩,⟨_,ax _ rfl⟩,λh1 h2 ⟨o,ho,r⟩ k=>⟨o,k o ho,r⟩⟩,rfl,q _ (I1.hok.fresh (af _))⟩
end
section
variable {X:Cx}{pins:List (Addr×Obj)}{σ:L2.St}{H:Hp}{s:ay}
theorem z1m (O:OrdOn p)(I:Inv X pins σ H s)
  (P:H l=Z9 (.lst vs)) (ho:s.heap.get? l=Z9 (listOf g.toArray n)) (rv:Vals vs g) (R:Reps X.K H B vs a) (S:2<=a.length) (DL:a.length<64) (T:∀d∈a,p d)
  (ask:∀v,(∀b o,b≠X.env.locals->b≠l->s.heap.get? b=Z9 o->v.get? b=Z9 o)->wpAny (model X.prog X.w) A.in1 (xg g.toArray) (λU x=>x={s with heap:=v}/\∀i j C,i<a.length->j<a.length->C (bZ (a.getD i .none) (a.getD j .none)) {s with heap:=v}->kas_ask X.prog X.w A.in1 U g i j C {s with heap:=v}) (λ_ _=>False) {s with heap:=v})
  (q:∀x D,Inv X pins σ (upd H l (.lst D)) x->Reps X.K H B D (z21 a)->Q .none x):wpAny (model X.prog X.w) A (call (.builtin "list.sort") [.ref l]) Q E s:=by
 have l1:=R.length;have l2:=rv.length;obtain⟨m,F,_⟩:=id I.loc
 have hb:X.base.get? l=none:=by
  cases e:X.base.get? l with
  |none=>rfl
  |some u=>have:=(I.bs l u e).2;rw[P]at this;cases this
 refine kat_lsort (vs:=g) ⟨F,I.bk,a8 I.ok.kK I.ok.above⟩ (nV (λz=>by subst z;rw[I.free]at P;cases P) hb ho) (.head G6) (by simp) (by omega) (by omega) λe1 v V W=>?_;have t:∀{h:Heap} {o:Obj},Fr X.base X.env.locals h m->News X.base X.env.locals h ((l,o)::rest X.base s.heap X.env.locals l)->∀b o,b≠X.env.locals->b≠l->s.heap.get? b=Z9 o->h.get? b=Z9 o:=λk r b o h1 S e=>z76 I.bk k (λq hq=>r q (b0 _ hq)) b o h1 S e;refine aN (ask v (t V W)) λU x zz=>?_;obtain⟨rfl,G⟩:=zz;have el:g.length=a.length:=by omega
 rw[el];refine DC (lt:=ltk (rank a)) (λi j C x y Y e hC=>?_) (kas_sort a.length) _ (IU (by omega)) rfl λx e=>?_
 .subst e;refine G i j C y Y ?_;rw[<-DG O T y Y];exact hC _ rfl
 .subst e;refine⟨_,_,V,W,.head G6,λh c k r=>?_⟩;have J:=(r _ bj).1;have L:=Jd O T (by omega);obtain⟨_,f⟩:=Dz a.length (by omega);generalize runT (ltk (rank a)) (kas_sort a.length)=M at L f J ⊢;have N:∀i∈M.toList,i<a.length:=λi y=>by have:=(f.toList.mem_iff).mp y;simpa using this
  have Q5:(M.toList.map λi=>vs.getD i .bG).length=a.length:=by have:=f.toList.length_eq;simpa using this
  refine q _ (M.toList.map λi=>vs.getD i .bG) (I.writeF P F k.ns (t k r) ⟨by rw[bt];omega,_,c,DJ rv M.toList (λi y=>by rw[l1];exact N i y),J⟩) ?_;rw[<-L];exact DK R M.toList N
end
theorem z4o {vs:List Value}(hoL:s.heap.get? l=Z9 (fg "list" vs.toArray n))(h2:vs.length<2)
  (h:∀h' n',(∀b o,b≠l->s.heap.get? b=Z9 o->h'.get? b=Z9 o)->h'.get? l=Z9 (fg "list" vs.toArray n')->Q .none {s with heap:=h'}):
  wpAny (model prog w) A (call (.builtin "list.sort") [.ref l]) Q E s:=by
 refine gf slot_list_sort ⟨_,hoL,rfl⟩ entry_list_sort ?body (args_list_sort _);rw[list_sort_plain];refine ac (qp hoL rfl ?_);refine ac (mh hoL rfl ?_);obtain⟨e1,yj⟩:∃e1,(s.heap.update l (Obj.mapSeq λ_=>(#[]:Array Value))).get? l=Z9 (fg "list" #[] e1):=⟨_,j8 hoL λ_=>#[]⟩;have k3:∀b o,b≠l->s.heap.get? b=Z9 o->(s.heap.update l (Obj.mapSeq λ_=>(#[]:Array Value))).get? b=Z9 o:=λb o hb e=>vA hb e;generalize (s.heap.update l (Obj.mapSeq λ_=>(#[]:Array Value)))=h3 at yj k3 ⊢;refine ac (se yj rfl ?_);refine ac (n8 ?_ (by rw[bt];simp;omega));apply ac;refine j4 (dh ?_);have Ao:((h3.push (fg "tuple" vs.toArray 0)).push (fg "list" #[] 0)).get? l=Z9 (fg "list" #[] e1):=ah _ (ah _ yj);have k6:∀b o,b≠l->s.heap.get? b=Z9 o->((h3.push (fg "tuple" vs.toArray 0)).push (fg "list" #[] 0)).get? b=Z9 o:=λb o hb e=>ah _ (ah _ (k3 b o hb e));generalize ((h3.push (fg "tuple" vs.toArray 0)).push (fg "list" #[] 0))=h6 at Ao k6 ⊢;have hz:vs.toArray.size<2:=by simpa using h2
 rw[xh hz,xh hz];refine ac (ar ?_);refine ac (ar ?_);refine ac (se Ao rfl ?_);have em:(arrOf (SortSt.mk' general' (vs.toArray.zip vs.toArray) #[] 7 Z8)).map (·.2)=vs.toArray:=by show(vs.toArray.zip vs.toArray).map (·.2)=vs.toArray;simp;exact List.map_snd_zip (af _)
 rw[em];refine ac (mh Ao rfl ?_);simp;exact ar ⟨_,rfl,h _ _ (λb o hb e=>vA hb (k6 b o hb e)) (j8 Ao λ_=>vs.toArray)⟩
theorem Jr {K:Z5}:∀{b:List V} {c:List D},b.length=c.length->(∀(i:Nat) v d,b[i]?=Z9 v->c[i]?=Z9 d->Rep K H B v d)->Reps K H B b c
 | [],[],_,_=>rfl
 |v::b,d::c,a,h=>Reps.cons (h 0 v d rfl rfl) (Jr (by simpa using a) λi v d e f=>h (i+1) v d (by simpa using e) (by simpa using f))
 | [],_::_,a,_=>by cases a
 |_::_,[],a,_=>by cases a
theorem pA:∀b:List Addr,Vals (b.map V.ref) (b.map ZU)
 | []=>.nil
 |a::b=>.cons rfl (pA b)
section
variable {X:Cx}
def Ri (K:Z5):List V->Hp->VK->Prop:=λxs H Q=>∃p d kvs es B,xs=[.ref p]/\H p=Z9 (.ext λh=>h.IsItemsView p d)/\H d=Z9 (.dK kvs)/\REs K H B kvs es/\bU es=Z7/\mZ (es.map ent)=Z7/\es.length<64/\∀w H',Same H H'->Rep K H' (nw H) w (.list (z21 (es.map ent)))->Q w H'
theorem Rj (hc:X.calm=Z7):CallR X (.builtin "sorted") (Ri X.K):=by
 rintro pins s σ H xs us Q I r ⟨p,d,kvs,es,B,rfl,hp,hd,rs,Dp,hok,DL,q⟩
 obtain⟨u,rfl,rfl⟩:=vals1 r;obtain⟨yk,_,_⟩:=I.hok p _ hp;obtain⟨hz,oY,vs,rel,o,uX,ep,ho,Rk,sE,r3⟩:=pS I.hok hd;have lk:=rel.length;have le:=rs.length;apply j0 wb uw ux (uy _);apply ac;apply ar;refine ac (kdx_collect (I.ok.hd hc) yk ⟨o,uX,ho,Rk,sE,r3⟩ (by omega) λh' tk as hk hl hG=>?_);have I1:Inv X pins σ H {s with heap:=h',toks:=tk}:=I.kept hk;have lz:as.length=kvs.length:=by omega
 have yl:∀z∈as.zip (kvs.map λkv=>[kV kv.1,kv.2]),∃j k v,as[j]?=Z9 z.1/\kvs[j]?=Z9 (k,v)/\z.2=[kV k,v]:=λz Rl=>by
  obtain⟨j,hj,ej⟩:=my Rl;have hj':j<as.length/\j<kvs.length:=by rw[j9]at hj;omega
  refine⟨j,(kvs[j]'hj'.2).1,(kvs[j]'hj'.2).2,?_,aq hj'.2,?_⟩
  .rw[<-ej,List.getElem_zip];exact aq hj'.1
  .rw[<-ej];simp
 obtain⟨H1,I2,sm,ht,_⟩:=z85 (as.zip (kvs.map λkv=>[kV kv.1,kv.2])) I1 (by rw[List.map_fst_zip (by grind)];exact hG.rise.imp λh=>cx h)
  (λz hz=>by obtain⟨j,k,v,h1,_,_⟩:=yl z hz;have ha:=hG.above z.1 (bn h1);exact I.eN (jx ha) (I.hok.fresh (jx ha)))
  (λz hz=>by obtain⟨j,k,v,h1,h2,h3⟩:=yl z hz;obtain⟨key,k',x,g1,g2,g3⟩:=hG.pairs j z.1 h1;obtain⟨u,g4,ru⟩:=DN rel h2;rw[g4]at g1;cases g1;rw[h3];exact⟨by rw[bt];simp,[key,_],.cons (DO g2) (.cons ru .nil),0,g3⟩)
 refine ac (j4 ?_ (by grind));have hD:=I2.hok.fresh (af _);have I3:Inv X pins σ (upd H1 h'.objs.size (.lst (as.map V.ref))) {s with heap:=h'.push (fg "list" (as.map ZU).toArray 0),toks:=tk}:=I2.laid (λ_ _ q=>ah _ q) (af _) ⟨by rw[ae];omega,_,0,pA as,ax _ rfl⟩
 have rp:Reps X.K (upd H1 h'.objs.size (.lst (as.map V.ref))) (λ_=>False) (as.map V.ref) (es.map ent):=by
  refine Jr (by grind) λi v dd h1 h2=>?_;rw[ba]at h1 h2;obtain⟨a,ha,rfl⟩:=bu.mp h1;obtain⟨ev,Js,rfl⟩:=bu.mp h2;have hi:i<kvs.length:=lz▸(br.mp ha).1;have Jt:kvs[i]?=Z9 (kvs[i].1,kvs[i].2):=by simp[hi]
  obtain⟨dv,h4,ok,rv⟩:=REs.at rs Jt;rw[h4]at Js;cases Js;have Ju:=ht (a,[kV kvs[i].1,kvs[i].2]) (by refine List.mem_iff_getElem?.mpr ⟨i,?_⟩;rw[List.getElem?_zip_eq_some];exact⟨ha,by rw[ba,Jt];rfl⟩);refine⟨a,_,rfl,bF.of (by rw[aA (bY Ju hD)];exact Ju),Reps.cons (Jp ok) (Reps.cons ?_ rfl)⟩;exact Rep.gP (λb u e f=>by have:=sm b u e;rw[aA (bY this hD)];exact this) dv (bg.mp Dp _ (bn h4)) rv
 have Jv:H h'.objs.size=none:=by
  cases e:H h'.objs.size with
  |none=>rfl
  |some u=>have:=sm _ _ e;rw[hD]at this;cases this
 have fin:∀s' kT,Inv X pins σ (upd (upd H1 h'.objs.size (.lst (as.map V.ref))) h'.objs.size (.lst kT)) s'->Reps X.K (upd H1 h'.objs.size (.lst (as.map V.ref))) (λ_=>False) kT (z21 (es.map ent))->EP X pins σ Q (.ref h'.objs.size) s':=λs' kT I4 r4=>by
  refine⟨.ref h'.objs.size,_,I4,rfl,q _ _ (λb u e=>?_) ⟨_,kT,rfl,.inl ⟨aO,Jv⟩,?_⟩⟩
  .have hb:=bY e Jv;rw[aA hb,aA hb];exact sm b u e
  .exact Reps.keep (fun b u e f=>by
    rcases f with f|f
    .exact f.elim
    .have hb:b≠h'.objs.size:=λz=>by subst z;rw[aO]at e;cases e;exact f
     rw[aA hb];exact e) (λ_ z=>z.elim) _ r4
 have ym:(h'.push (fg "list" (as.map ZU).toArray 0)).get? h'.objs.size=Z9 (fg "list" (as.map ZU).toArray 0):=ax _ rfl;obtain⟨m,Jw,_⟩:=id I3.loc;by_cases h2:es.length<2
 .refine ac (dh (z4o (s:={s with heap:=h'.push (fg "list" (as.map ZU).toArray 0),toks:=tk}) ym (by grind) λkY n' kp Rm=>ar ⟨_,rfl,fin _ _ (I3.writeF aO Jw (Jw.at λo e=>kp _ o (λz=>by have :=I2.lt;rw[z]at this;exact cu _ this) e) (λb u _ hb e=>kp b u hb e) ⟨by rw[ae];omega,_,n',pA as,Rm⟩) ?_⟩))
  have Rn:z21 (es.map ent)=es.map ent:=by
   match es,h2 with
   | [],_=>rfl
   | [y],_=>rfl
   |_::_::_,h2=>simp at h2;omega
  rw[Rn];exact rp
 .have vB:2<=(es.map ent).length:=by rw[ae];omega
  have sF:(es.map ent).length<64:=by rw[ae];exact DL
  unfold mZ at hok;simp only[i4,bg]at hok;have Ro:∀kY:Heap,(∀b o,b≠X.env.locals->b≠h'.objs.size->(h'.push (fg "list" (as.map ZU).toArray 0)).get? b=Z9 o->kY.get? b=Z9 o)->∀b o,(h'.push (fg "list" (as.map ZU).toArray 0)).get? b=Z9 o->o.cls=.type "tuple"->b≠X.env.locals->kY.get? b=Z9 o:=λkY kp b o e Rp hL=>kp b o hL (λz=>by subst z;rw[ym]at e;cases e;exact absurd Rp (by simp)) e;rcases hok with(hs|hs)|hs
  .exact ac (dh (z1m oV I3 aO ym (pA as) rp vB sF hs (λkY kp=>z5v Z7 hs rp (pA as) vB kY) λs' kT I4 r4=>ar ⟨_,rfl,fin s' kT I4 r4⟩))
  .exact ac (dh (z1m oW I3 aO ym (pA as) rp vB sF hs (λkY kp=>z5v Z6 hs rp (pA as) vB kY) λs' kT I4 r4=>ar ⟨_,rfl,fin s' kT I4 r4⟩))
  .split at hs
   case h_2=>cases hs
   rename_i y0 _ _;simp only[bq,bg,jt]at hs;obtain⟨kR,hs⟩:=hs;cases y0 with
   |nil=>cases kR
   |cons y1 yr=>exact ac (dh (z1m (sD _) I3 aO ym (pA as) rp vB sF hs (λkY kp=>zek I3 _ _ hs rp (pA as) vB (Ro kY kp)) λs' kT I4 r4=>ar ⟨_,rfl,fin s' kT I4 r4⟩))
end
section
variable {X:Cx}
theorem zmi {i:Nat}(A:X.calm=Z7)(hm:X.mg f=Z8)(hb:df f=Z9 (.builtin "sorted"))(C:Gl X f)(hn:f≠"__name__")(n:YC f)
  (hN:X.N[i]?=Z9 x) (D:Vis X.env.scope x) (o:YC x) (r:(x==("__classdict__":Str))=Z6) (c:(E.endLine==cp.line)=Z7):
  PE X (.Call (.Name f p) [.Call (.Attribute (.Name x O) "items" E) [] [] cp] [] pos) (tD X.K λy=>match y[i]? with
   |some (Z9 (_,.dict es))=>if bU es&&mZ (es.map ent)&&decide (es.length<64)then .ok (.fr,.list (z21 (es.map ent)))else .no
   |_=>.no):=
 PE.imp (uL (Rj A) hm hb (cZ (zfx hN D o r c) iR rfl) rfl C hn n) λP H Q ⟨y,F,z,so,e,q⟩=>by
  dsimp only at e
  split at e
  case h_2=>cases e
  rename_i g es hr;split at e
  case isFalse=>cases e
  rename_i b;cases e;simp at b;obtain⟨⟨G,I⟩,J⟩:=b;obtain⟨d,j,B,s,t,R,L⟩:=Rg so hr;refine⟨d,j,s,t,λv m=>⟨v,d,j,es,B,rfl,aO,by rw[aA (bY t m)];exact t,L.same (Same.upd m) λ_ z=>z,G,I,J,λw M sm u=>q w M ((Same.upd m).trans sm) (u.weak λa ha=>?_)⟩⟩;cases a with
  |none=>exact ha
  |some a=>
   have k:upd H v (.ext λh=>h.IsItemsView v d) a=none:=ha;by_cases l:a=v
   .subst l;exact m
   .rw[aA l]at k;exact k
end
theorem REs.keys {K:Z5}:∀{kvs:List (Key×V)} {es:bA},REs K H B kvs es->Reps K H B' (kvs.map λkv=>kV kv.1) (es.map (·.1))
 |kvs,[],r=>by have e:kvs=[]:=r;subst e;exact rfl
 |kvs,(kd,d)::es,r=>by obtain⟨k,v,t,e,e2,ok,h,q⟩:=r;subst e e2;exact Reps.cons (Jp ok) q.keys
theorem z8g (ho:s.heap.get? t=Z9 o)(j:o.cls=.type "tuple")(hd:o.data=.seq a.toArray n)(c:a.length<=bb)
  (h:∀d,(∀b u,s.heap.get? b=Z9 u->d.get? b=Z9 u)->s.heap.objs.size<=d.objs.size->Q a {s with heap:=d}):wpAny (model prog w) A (collect (.ref t)) Q E s:=by
 have i:(s.heap.push (fg "list" #[] 0)).get? t=Z9 o:=ah _ ho;have f:(s.heap.push (fg "list" #[] 0)).get? s.heap.objs.size=Z9 (fg "list" #[] 0):=ax _ rfl;have g:((#[]:Array Value)++a.toArray).size<=bb+1:=by exact u0 (by simpa using c)
 apply ac;apply wpAny_runValue;refine i5 entry_proto_collect' ?_;apply ac;refine j4 (ar ⟨Code.quiet_builtin _ (by decide+kernel),i5 entry_list_iadd' ?_⟩);show wpAny (model prog w) _ (nn (.ref s.heap.objs.size) (.ref t) (.ref s.heap.objs.size)) _ E ⟨s.heap.push (fg "list" #[] 0),s.gens,s.drawn,s.toks,s.os⟩;unfold nn;apply ac;refine nk ⟨o,i,j⟩ ?_;have k:(Value.type "tuple"==Value.type "tuple")=true:=by rfl
 rw[k,vg];apply ac;refine qp i hd ?_;apply ac;refine qp f rfl ?_;apply ac;refine mh f rfl ?_ (be _) g;apply ar;apply ac;refine ud (j8 f (·++a.toArray)) ?_;show wpAny (model prog w) A (pure ((#[]:Array Value)++a.toArray).toList) Q E _;have l:((#[]:Array Value)++a.toArray).toList=a:=by simp
 rw[l];exact ar (h ((s.heap.push (fg "list" #[] 0)).update s.heap.objs.size (Obj.mapSeq (·++a.toArray))) (λb u e=>vA (cx (bh e)) (ah _ e)) (by rw[Heap.size_update,mf];exact wc _))
section
variable {X:Cx}
theorem Rq (hu:X.A.units+64<cLine):CallR X (.builtin "sorted") (rAgg X.K "sorted"):=by
 rintro k s N H xs us Q I r ⟨B,x,dx,l,i,d,hx,rx,e,e2,q⟩
 cases l with
 |true=>exact zcp hu I r hx rx e e2 q
 |false=>
  subst hx;obtain⟨a,G,rfl,R,rs⟩:=pY rx e;have O:(if((Z6||imms i)&&CH i&&decide (i.length<64))=Z7 then Res.ok (Z0 (z21 i))else .no)=.ok d:=e2;cases L:(Z6||imms i)&&CH i&&decide (i.length<64)with
  |false=>rw[L]at O;cases O
  |true=>
   rw[L]at O;cases O;obtain⟨L,v⟩:=az.mp L;obtain⟨S,hok⟩:=az.mp L;have v:=xn v;obtain⟨u,rfl,rfl⟩:=vals1 r;obtain⟨h,rv,⟨o,n,ho,D,Yl,T⟩,U⟩:=I.lI R;have Ym:h.length=i.length:=by rw[<-rv.length,rs.length]
   have sz:h.length<=bb:=rv.length▸U;apply j0 wb uw ux (uy _);apply ac;apply ar;refine ac (z8g ho D T sz λj hk mH=>?_);have V:Inv X k N H {s with heap:=j}:=I.kept hk;refine ac (j4 ?_ sz);have E:=V.hok.fresh (af _);have p:(j.push (fg "list" h.toArray 0)).get? j.objs.size=Z9 (fg "list" h.toArray 0):=ax _ rfl;have J:Inv X k N (upd H j.objs.size (.lst G)) {s with heap:=j.push (fg "list" h.toArray 0)}:=V.laid (λ_ _ z=>ah _ z) (af _) ⟨U,h,0,rv,p⟩;have rp:Reps X.K (upd H j.objs.size (.lst G)) (λ_=>False) G i:=(Reps.aT i S rs).same (Same.upd E) λ_ z=>z
   have w:∀C c,Inv X k N (upd (upd H j.objs.size (.lst G)) j.objs.size (.lst c)) C->Reps X.K (upd H j.objs.size (.lst G)) (λ_=>False) c (z21 i)->EP X k N Q (.ref j.objs.size) C:=λC c F r4=>by
    refine⟨.ref j.objs.size,_,F,rfl,q _ _ (λb u z=>?_) ⟨_,c,rfl,.inl ⟨aO,.inl E⟩,?_⟩⟩
    .have hb:=bY z E;rw[aA hb,aA hb];exact z
    .refine Reps.keep (λb u z f=>?_) (λ_ z=>z.elim) _ r4;rcases f with f|f
     .exact f.elim
     .have hb:b≠j.objs.size:=λz'=>by subst z';rw[aO]at z;cases z;exact f
      rw[aA hb];exact z
   obtain⟨m,M,_⟩:=id J.loc;by_cases P:i.length<2
   .have es:z21 i=i:=by
     match i,P with
     | [],_=>rfl
     | [y],_=>rfl
     |_::_::_,P=>simp at P;omega
    refine ac (dh (z4o p (by omega) λg n' kp W=>ar ⟨_,rfl,w _ G (J.writeF aO M (M.at λo e=>kp _ o (λz=>by have:=V.lt;rw[z]at this;exact cu _ this) e) (λb u _ hb e=>kp b u hb e) ⟨U,h,n',rv,W⟩) (by rw[es];exact rp)⟩))
   .have t:2<=i.length:=p7 P;have Y:∀g:Heap,(∀b o,b≠X.env.locals->b≠j.objs.size->(j.push (fg "list" h.toArray 0)).get? b=Z9 o->g.get? b=Z9 o)->∀b o,(j.push (fg "list" h.toArray 0)).get? b=Z9 o->o.cls=.type "tuple"->b≠X.env.locals->g.get? b=Z9 o:=λg kp b o e D hL=>kp b o hL (λz=>by subst z;rw[p]at e;cases e;exact absurd D (by simp)) e;replace hok:=(i4 _ _).mp hok;rcases hok with hok|hok
    case inr=>cases hok
    unfold mZ at hok;simp at hok;rcases hok with(hs|hs)|hs
    .exact ac (dh (z1m oV J aO p rv rp t v hs (λg kp=>z5v Z7 hs rp rv t g) λC c F r4=>ar ⟨_,rfl,w C c F r4⟩))
    .exact ac (dh (z1m oW J aO p rv rp t v hs (λg kp=>z5v Z6 hs rp rv t g) λC c F r4=>ar ⟨_,rfl,w C c F r4⟩))
    .split at hs
     case h_2=>cases hs
     rename_i y0 _ _ _;simp only[bq,bg,jt]at hs;obtain⟨Z,hs⟩:=hs;cases y0 with
     |nil=>cases Z
     |cons y1 yr=>exact ac (dh (z1m (sD _) J aO p rv rp t v hs (λg kp=>zek J _ _ hs rp rv t (Y g kp)) λC c F r4=>ar ⟨_,rfl,w C c F r4⟩))
end
def Jx (lo c:Int)(n:Nat):It:=⟨λi _=>i<n,λi H x H'=>H'=H/\x=.int (lo+i*c),λi _=>n<=i⟩
theorem Rr {K:Z5}(it:Addr)(g c:Int)(n:Nat):Turn P w K B (Jx g c n) [it] it (λi h=>vw h it (g+(i:Nat)*c) ((n:Int)-(i:Nat)) c) where
 mem:=by simp
 obj:=λi h st b d=>by
  obtain rfl:b=it:=by simpa using d
  refine⟨_,st,λv z=>?_⟩;cases z
 keep:=λi h j st k=>k it (by simp) _ st
 item:=by intro X p q r hc i a s m H E I hf st l;have⟨f0,f1,f2,f3,f4,f5⟩:=hf it (by simp);refine(Walks.range (I.ok.hd hc) it g c n).item i s _ _ l st λv j u x f kk=>?_;obtain⟨t,rfl⟩:=x;have y:Inv X a m H {s with heap:=j,toks:=u}:=I.turned (λb o d e=>kk b o (by simpa using d) e) f0 f1 f3 f4 f5;exact⟨_,rfl,zd9 f rfl rfl dc ⟨.int (g+i*c),H,y,⟨t,rfl⟩,⟨rfl,rfl⟩,f,λb d=>(hf b d).1⟩⟩
 done:=by intro X p q r hc i a s m H E I hf st l;have⟨f0,f1,f2,f3,f4,f5⟩:=hf it (by simp);have hn:n<=i:=l;refine qe (I.ok.hd hc) st (by omega) λj A=>⟨rfl,?_⟩;exact I.turned (λb o d e=>A b o d e) f0 f1 f3 f4 f5
 self:=λ_ _ _ _ _ st h=>qf st h
section
variable {X:Cx}{tg a b c e:Expr}{es:List Expr}{fa fb:Rho->Res GD}{pos:Pos}
def sG (a b c:Int):Nat:=if a<b then((b-a-1)/c+1).toNat else 0
theorem rangeSize_pos {a b c:Int}(d:0<c):kx a b c=(sG a b c:Int):=by
 unfold kx sG;rw[xh d];split
 .have :0<=(b-a-1)/c:=Int.ediv_nonneg (by omega) (by omega);omega
 .rfl
theorem Jy {a b c:Int}(hc:0<c)(d:-aQ<=a)(e:b<=aQ):sG a b c<=3*aQ:=by
 unfold sG;split
 .have f:(b-a-1)/c<=b-a-1:=Int.ediv_le_self _ (by omega);omega
 .exact be _
theorem Rt {a b c:Int}(hc:0<c)(e:-aQ<=a)(f:a<=aQ)(g:b<=aQ)(h:-aQ<=b)(i:c<=aQ):sy a b c=true:=by
 have hn:=Jy hc e g;unfold sy;rw[rangeSize_pos hc,xh hc];have d:∀x,-4000000<=x->x<=4000000->nq x=true:=λx j k=>by unfold nq;simp;omega
 unfold aQ at *
 rw[d a (by omega) (by omega),d b (by omega) (by omega),d c (by omega) (by omega),d _ (by omega) (by omega),d (b+(c-1)) (by omega) (by omega)];simp
theorem Rv {K:Z5}{b c:Int}(f:n<=bb):Walk K (Jx b c n) B H ((d8 n).map λ(i:Nat)=>.int (b+i*c)):=by
 have d:((d8 n).map λ(i:Nat)=>(ZZ (b+i*c):D)).length=n:=by simp
 constructor
 .rw[d];exact f
 .intro e k i a;rw[d]at a;exact a
 .intro e k;rw[d];exact af _
 .rintro e k i x g a ⟨rfl,rfl⟩
  rw[d]at a;exact⟨Same.refl _,.int (b+i*c),by rw[ba,sw a];rfl,rfl⟩
theorem Rw (hm:X.mg "range"=Z8)(O:Gl X "range")(hs:isStar a=Z6)(A:isStar b=Z6)(B:isStar c=Z6)(P:PA X [a,b,c] (tDA X.K fs))(Q:∀m j,fs m=.ok j->j.length=3):PI X tg (.Call (.Name "range" p) [a,b,c] [] pos) (tDW X.K λm=>fs m>>=λj=>fX (j.map (·.2))>>=λM=>.ok (.fr,M)):=by
 rintro f s C H R I ⟨m,F,w,so,e,q⟩
 obtain⟨j,y,e⟩:=Res.aB e;obtain⟨M,l,e⟩:=Res.aB e;cases e;have D:eo [c] X.env=[(Z6,eval c X.env)]:=dW B;have E:eo [b,c] X.env=(Z6,eval b X.env)::[(Z6,eval c X.env)]:=by rw[dW A,D]
 refine Call_ (z2j I O hm wm (PyProof.Rows.callWith_type1 (aN (P pos f s C H (λG k=>Same H k/\dH X.K F H k G j) I ⟨m,F,j,so,y,λG k u rs=>⟨u,rs⟩⟩) λus u ⟨G,k,S,T,sm,rs⟩=>?_) (dW hs) (by rw[E];rfl)))
 match j,(Q m j y)with
 | [(g,d),(g',N),(g2,d2)],U=>
  obtain⟨v,t1,ev,V,W⟩:=rs;obtain⟨Y,Z,J,h2,h3⟩:=W.two;subst ev J;obtain⟨h,rfl⟩:∃i,d=.int i:=by cases d<;>first|exact⟨_,rfl⟩|cases l
  obtain⟨x,rfl⟩:∃i,N=.int i:=by cases N<;>first|exact⟨_,rfl⟩|cases l
  obtain⟨st,rfl⟩:∃i,d2=.int i:=by cases d2<;>first|exact⟨_,rfl⟩|cases l
  obtain rfl:v=.int h:=V;obtain rfl:Y=.int x:=h2;obtain rfl:Z=.int st:=h3;simp only[aw,il,fX]at l;split at l
  case isFalse=>cases l
  rename_i hn;cases l;cases T with
  |cons r rr=>
  cases rr with
  |cons r' rr=>
  cases rr with
  |cons r2 rr=>
  cases rr;obtain⟨t,rfl⟩:=r;obtain⟨t',rfl⟩:=r';obtain⟨t2,rfl⟩:=r2;have hc:=hn.2.2.2.2.1;refine call_range_3 (by omega) ?_ (.inl (PyProof.noPylong_small (by unfold aQ at hn;omega)));refine ue (IsRange.new ..) (Rt hc hn.1 hn.2.2.1 hn.2.1 hn.2.2.2.1 hn.2.2.2.2.2) ?_;rw[rangeSize_pos hc];generalize hR:u.heap.push {cls:=.type "range",data:=.fields #[.int h t,.int x t',.int st t2]}=n;have L:Inv X f C k {u with heap:=n}:=S.kept λb o e=>hR▸ah _ e;have I3:Inv X f C k {u with heap:=n.push {cls:=.type "range_iterator",data:=.fields #[kr h,kr (sG h x st:Int),kr st]}}:=L.kept λb o e=>ah _ e;refine⟨n.objs.size,[n.objs.size],_,_,k,rfl,I3,Rr n.objs.size h st (sG h x st),?_,λb hb=>?_,q _ (λ_=>False) k sm (λ_ z=>z.elim) (Rv ?_)⟩
  .show vw _ _ (h+((0:Nat):Int)*st) ((sG h x st:Int)-(0:Int)) st;have y:h+((0:Nat):Int)*st=h:=by simp
   rw[y];exact ax _ rfl
  .obtain rfl:b=n.objs.size:=by simpa using hb
   exact L.eN (af _) (L.hok.fresh (af _))
  .have :=Jy hc hn.1 hn.2.1;rw[bt];unfold aQ at this;omega
theorem zwl (hc:CallR X (.type T) (zff X.K m))(hm:X.mg x=Z8)(l:df x=Z9 (.type T))(n:PA X (e::es) (tDA X.K fs))(c:((e::es).all fun e=>!isStar e)=Z7)(o:Gl X x)(hn:x≠"__name__")(f:YC x):
  PE X (.Call (.Name x p) (e::es) [] pos) (tD X.K λg=>fs g>>=λi=>m (i.map (·.2))>>=λd=>.ok (gJ d .al,d)):=by
 refine PE.imp (zW hc hm l n c o hn f) λy H Q r=>?_;obtain⟨g,F,z,so,b,q⟩:=r;obtain⟨i,s,b⟩:=Res.aB b;obtain⟨d,t,b⟩:=Res.aB b;cases b;exact⟨g,F,i,so,s,λA B k rs=>⟨_,_,d,rs.iU so.aK,t,λw u v j=>q w u (k.trans v) (pX j λa h=>h.elim (λz=>(nw.back k z).aK so.aK) λz=>z)⟩⟩
theorem Rx:CallR X (.type "int") (zff X.K (kN "int")):=by
 refine CallR.imp Og λc H Q h=>?_;obtain⟨B,e,d,r,a,q⟩:=h;simp only[kN,show("int":String)≠"len" by decide,show("int":String)≠"max" by decide,if_true,if_false]at a;split at a
 .rename_i i;cases a;obtain⟨v,rfl,b⟩:=Ae r;obtain rfl:v=.int i:=b;exact .inl ⟨i,rfl,q _ H (Same.refl H) rfl⟩
 .rename_i k;cases a;obtain⟨v,rfl,b⟩:=Ae r;obtain rfl:v=.bl k:=b;exact .inr ⟨k,rfl,q _ H (Same.refl H) rfl⟩
 .cases a
end
abbrev ZRec (TI TO:Addr)(f0:Value)(f1:Bool):Obj:={cls:=.type "zip",dict:=Z8,data:=.fields #[f0,.bool f1,.bool Z6,.ref TI,.ref TO],slots:=#[]}
def ZF (f0:Value):Prop:=f0=Value.none\/∃T:Nat,f0=kr T
section
variable {prog:cw}{w:World}{A:gk}{E:Value->ay->Prop}{s:ay}{z TI TO:Addr}{f0:Value}{f1:Bool}
theorem Ry (h:Q (s.heap.get? a) s):wpAny (model prog w) A (loadIfAlive a) Q E s:=λ_ _ _=>h
theorem Jz (hf:ZF f0)(hz:s.heap.get? z=Z9 (ZRec TI TO f0 f1))(hQ:∀b h' nD,h'.get? z=Z9 (ZRec TI TO f0 nD)->cy z s.heap h'->Q b {s with heap:=h'}):wpAny (model prog w) A (j5 (.ref z)) Q E s:=by
 delta j5
 apply ac;refine fy hz rfl rfl ?_;rcases hf with rfl|⟨T,rfl⟩
 .exact ar (hQ Z7 s.heap f1 hz (Heap.SameBut.refl ..))
 .show wpAny _ _ (loadIfAlive ((T:Int).toNat)>>=_) _ _ _;apply ac;refine Ry ?_;cases s.heap.get? ((T:Int).toNat)with
  |none=>exact ar (hQ Z7 s.heap f1 hz (Heap.SameBut.refl ..))
  |some o=>
   apply ac;refine fy hz rfl rfl ?_;cases f1 with
   |true=>exact ar (hQ Z6 s.heap Z7 hz (Heap.SameBut.refl ..))
   |false=>apply ac;exact ge hz (by simp) λh' Ah sb=>ar (hQ Z6 h' Z7 Ah sb)
structure ZApart (z TI TO i1 i2:Addr)(p1 p2:List Addr):Prop where
 TIz:TI≠z
 TOz:TO≠z
 i1z:i1≠z
 i2z:i2≠z
 TITO:TI≠TO
 TIi1:TI≠i1
 TIi2:TI≠i2
 TOi1:TO≠i1
 TOi2:TO≠i2
 i12:i1≠i2
 yn:z∉p1
 JA:TO∉p1
 JB:i2∉p1
 yo:z∉p2
 DR:TO∉p2
 Ap:i1∉p2
variable {i1 i2:Addr}{p1 p2:List Addr}{n1 n2 i:Nat}{P1 P2:Nat->Value->Prop}{S1 S2:Nat->Heap->Prop}{a b:Value}
abbrev PairAt (h:Heap)(T:Addr)(a b:Value):Prop:=h.get? T=Z9 {cls:=.type "tuple",data:=.seq #[a,b]}
def Zk (z TO i1 i2:Addr)(h h':Heap):Prop:=∀c o,c≠z->c≠TO->c≠i1->c≠i2->h.get? c=Z9 o->h'.get? c=Z9 o
theorem DS (d:PairAt s.heap T a b)(h:∀c,c.get? T=Z9 {cls:=.type "tuple",data:=.seq ((#[a,b]:Array Value).setIfInBounds k x)}->cy T s.heap c->Q () {s with heap:=c}):wpAny (model prog w) A (updateSeq T (·.setIfInBounds k x)) Q E s:=wpAny_updateSeq d rfl (h _ (by rw[l8 _ d rfl];simp[Obj.mapSeq]) (tf ..))
theorem zfv {Q:Value->ay->Prop}(D:ZApart z TI TO i1 i2 p1 p2)(D1:Draws prog w A i1 p1 n1 P1 S1)(D2:Draws prog w A i2 p2 n2 P2 S2)(hf:ZF f0)(hz:s.heap.get? z=Z9 (ZRec TI TO f0 f1))(hTI:PairAt s.heap TI (.ref i1) (.ref i2))(hTO:PairAt s.heap TO a b)(h1:S1 i s.heap)(h2:S2 i s.heap)(l1:i<n1)(l2:i<n2)
  (hQ:∀x y h' tk DT nD a' b',P1 i x->P2 i y->ZF DT->h'.get? z=Z9 (ZRec TI TO DT nD)->PairAt h' TO a' b'->S1 (i+1) h'->S2 (i+1) h'->PairAt h' s.heap.objs.size x y->Zk z TO i1 i2 s.heap h'->Q (.ref s.heap.objs.size) {s with heap:=h',toks:=tk}):
  wpAny (model prog w) A (Builtin.«zip.__next__» {pos:=[.ref z],kw:=[]}) (λfin s'=>∃v,fin=.done (.ret v)/\Q v s') E s:=by
 show wpAny (model prog w) A (field (.ref z) 2>>=_) _ E s;apply ac;refine fy hz rfl rfl ?_;apply ac;refine fy hz rfl rfl ?_;apply ac;refine gw hTI rfl ?_;apply ac;refine Jz hf hz λbf h₀ nD mI qC=>?_;have k0:=λc o hc e=>qC.extBut c o hc e;have e1:=D1.frame _ _ _ h1 λb hb o e=>k0 b o (λq=>D.yn (q▸hb)) e;have e2:=D2.frame _ _ _ h2 λb hb o e=>k0 b o (λq=>D.yo (q▸hb)) e;have t0:=k0 _ _ D.TOz hTO;have JC:=qC.1;cases bf with
 |true=>
  apply ac;refine n7 ?_;apply ac;refine fy mI rfl rfl ?_;apply ac;refine ge mI (by simp) λha za ka=>?_;replace za:ha.get? z=Z9 (ZRec TI TO .ellipsis nD):=za;apply ac;apply ac;apply ac;apply pj;apply ac;refine D1.item i _ _ _ l1 (D1.frame _ _ _ e1 λb hb o e=>ka.extBut b o (λq=>D.yn (q▸hb)) e) λx hb tk DU DV kb=>ar ?_;replace kb:cy i1 ha hb:=kb;have tb:=kb.extBut _ _ D.TOi1 (ka.extBut _ _ D.TOz t0);apply ac;refine gw tb rfl ?_;apply ac;refine DS tb λhc tc kc=>?_;replace tc:PairAt hc TO x b:=tc;replace kc:cy TO hb hc:=kc;apply ac;refine we (ar ?_);apply ac;apply ac;apply pj;apply ac;refine D2.item i _ _ _ l2 (D2.frame _ _ _ (D2.frame _ _ _ (D2.frame _ _ _ e2 λb hb o e=>ka.extBut b o (λq=>D.yo (q▸hb)) e) λb eJ o e=>kb.extBut b o (λq=>D.Ap (q▸eJ)) e) λb eJ o e=>kc.extBut b o (λq=>D.DR (q▸eJ)) e) λy hd DW DX DY kd=>ar ?_;replace kd:cy i2 hc hd:=kd;have td:=kd.extBut _ _ D.TOi2 tc;apply ac;refine gw td rfl ?_;apply ac;refine DS td λhe te ke=>?_;replace te:PairAt he TO x y:=te;replace ke:cy TO hd he:=ke;apply ac;refine we (ar (ar ?_));apply ac;refine gw te rfl ?_;apply ac;refine n8 ?_;have sz:he.objs.size=s.heap.objs.size:=by rw[ke.1,kd.1,kc.1,kb.1,ka.1,JC]
  have ze:=ke.extBut _ _ D.TOz.symm (kd.extBut _ _ D.i2z.symm (kc.extBut _ _ D.TOz.symm (kb.extBut _ _ D.i1z.symm za)));have JD:=bh ze;apply ac
  delta Builtin.SmallTypes.ownedTupleHandOut
  have zf:(he.push {cls:=.type "tuple",data:=.seq #[x,y]}).get? z=Z9 (ZRec TI TO .ellipsis nD):=ah _ ze;apply ac;refine ge zf (by simp) λhg zg kg=>?_;replace zg:hg.get? z=Z9 (ZRec TI TO (kr he.objs.size) nD):=zg;refine ge zg (by simp) λhh zh kh=>?_;replace zh:hh.get? z=Z9 (ZRec TI TO (kr he.objs.size) Z6):=zh;have up:∀c o,c≠z->he.get? c=Z9 o->hh.get? c=Z9 o:=λc o hc e=>kh.extBut _ _ hc (kg.extBut _ _ hc (ah _ e));have new:=kh.extBut _ _ (qd JD) (kg.extBut _ _ (qd JD) (ax _ rfl));refine ar ⟨.ref he.objs.size,rfl,?_⟩;rw[sz]at new ⊢;exact hQ x y hh DW _ _ x y DU DX (.inr ⟨_,rfl⟩) zh (up _ _ D.TOz te) (D1.frame _ _ _ (D1.frame _ _ _ (D1.frame _ _ _ (D1.frame _ _ _ DV λb eJ o e=>kc.extBut b o (λq=>D.JA (q▸eJ)) e) λb eJ o e=>kd.extBut b o (λq=>D.JB (q▸eJ)) e) λb eJ o e=>ke.extBut b o (λq=>D.JA (q▸eJ)) e) λb eJ o e=>up b o (λq=>D.yn (q▸eJ)) e) (D2.frame _ _ _ (D2.frame _ _ _ DY λb eJ o e=>ke.extBut b o (λq=>D.DR (q▸eJ)) e) λb eJ o e=>up b o (λq=>D.yo (q▸eJ)) e) new λc o c1 c2 c3 c4 e=>up c o c1 (ke.extBut _ _ c2 (kd.extBut _ _ c4 (kc.extBut _ _ c2 (kb.extBut _ _ c3 (ka.extBut _ _ c1 (k0 c o c1 e))))))
 |false=>
  apply ac;apply ac;apply ac;apply dh;apply ac;refine D1.item i _ _ _ l1 e1 λx hb tk DU DV kb=>ar (ar ?_);replace kb:cy i1 h₀ hb:=kb;apply ac;apply ac;apply dh;apply ac;refine D2.item i _ _ _ l2 (D2.frame _ _ _ e2 λb eJ o e=>kb.extBut b o (λq=>D.Ap (q▸eJ)) e) λy hd DW DX DY kd=>ar (ar (ar ?_));replace kd:cy i2 hb hd:=kd;have sz:hd.objs.size=s.heap.objs.size:=by rw[kd.1,kb.1,JC]
  apply ac;refine n8 (ar ⟨_,rfl,?_⟩) (by show 2<=bb;decide);have up:∀c o,hd.get? c=Z9 o->(hd.push {cls:=.type "tuple",data:=.seq #[x,y]}).get? c=Z9 o:=λc o e=>ah _ e;have new:PairAt (hd.push {cls:=.type "tuple",data:=.seq #[x,y]}) hd.objs.size x y:=ax _ rfl;rw[sz]at new ⊢;exact hQ x y _ DW f0 nD a b DU DX hf (up _ _ (kd.extBut _ _ D.i2z.symm (kb.extBut _ _ D.i1z.symm mI))) (up _ _ (kd.extBut _ _ D.TOi2 (kb.extBut _ _ D.TOi1 t0))) (D1.frame _ _ _ (D1.frame _ _ _ DV λb eJ o e=>kd.extBut b o (λq=>D.JB (q▸eJ)) e) λb eJ o e=>up b o e) (D2.frame _ _ _ DY λb eJ o e=>up b o e) new λc o c1 c2 c3 c4 e=>up c o (kd.extBut _ _ c4 (kb.extBut _ _ c3 (k0 c o c1 e)))
theorem zlh (D:ZApart z TI TO i1 i2 p1 p2)(B:Draws prog w A i1 p1 n1 P1 S1)(m:Draws prog w A i2 p2 n2 P2 S2)(hf:ZF f0)(N:s.heap.get? z=Z9 (ZRec TI TO f0 f1))(O:PairAt s.heap TI (.ref i1) (.ref i2))(P:PairAt s.heap TO a b)(h1:S1 i s.heap)(h2:S2 i s.heap)(hl:i=min n1 n2)
  (J:∀R C e,Zk z TO i1 i2 s.heap R->(∃o,R.get? e=Z9 o/\o.cls=.type "StopIteration")->E (.ref e) {s with heap:=R,toks:=C}):
  wpAny (model prog w) A (Builtin.«zip.__next__» {pos:=[.ref z],kw:=[]}) Q E s:=by
 show wpAny (model prog w) A (field (.ref z) 2>>=_) _ E s;apply ac;refine fy N rfl rfl ?_;apply ac;refine fy N rfl rfl ?_;apply ac;refine gw O rfl ?_;apply ac;refine Jz hf N λbf l S f n=>?_;have p:=λc o K e=>n.extBut c o K e;have T:=B.frame _ _ _ h1 λb hb o e=>p b o (λq=>D.yn (q▸hb)) e;have e2:=m.frame _ _ _ h2 λb hb o e=>p b o (λq=>D.yo (q▸hb)) e;cases bf with
 |true=>
  apply ac;refine n7 ?_;apply ac;refine fy f rfl rfl ?_;apply ac;refine ge f (by simp) λha L ka=>?_;replace L:ha.get? z=Z9 (ZRec TI TO .ellipsis S):=L;have F:=B.frame _ _ _ T λb hb o e=>ka.extBut b o (λq=>D.yn (q▸hb)) e;apply ac;apply ac;apply ac;apply pj;apply ac;by_cases U:i<n1
  .refine B.item i _ _ _ U F λx hb C V W g=>ar ?_;replace g:cy i1 ha hb:=g;have tb:=g.extBut _ _ D.TOi1 (ka.extBut _ _ D.TOz (p _ _ D.TOz P));have r:=m.frame _ _ _ (m.frame _ _ _ e2 λb hb o e=>ka.extBut b o (λq=>D.yo (q▸hb)) e) λb h o e=>g.extBut b o (λq=>D.Ap (q▸h)) e;apply ac;refine gw tb rfl ?_;apply ac;refine DS tb λK tc kc=>?_;replace kc:cy TO hb K:=kc;apply ac;refine we (ar ?_);have X:S2 n2 K:=by rw[show n2=i by omega];exact m.frame _ _ _ r λb h o e=>kc.extBut b o (λq=>D.DR (q▸h)) e
   apply ac;apply ac;apply pj;apply ac;refine m.done _ _ _ X λhd e kd t=>?_;obtain⟨Y,d,j⟩:=t;have G:=kd _ _ D.i2z.symm (kc.extBut _ _ D.TOz.symm (g.extBut _ _ D.i1z.symm L));refine ge G (by simp) λu _ H=>J u C e (λc o k M v I q=>?_) ⟨Y,H.extBut _ _ (λq=>by subst q;rw[G]at d;cases d;simp at j) d,j⟩;exact H.extBut _ _ k (kd _ _ I (kc.extBut _ _ M (g.extBut _ _ v (ka.extBut _ _ k (p c o k q)))))
  .have y:S1 n1 ha:=show n1=i by omega▸F
   refine B.done _ _ _ y λhd e kd t=>?_;obtain⟨Y,d,j⟩:=t;have G:=kd _ _ D.i1z.symm L;refine ge G (by simp) λu _ H=>J u s.toks e (λc o k M v I q=>?_) ⟨Y,H.extBut _ _ (λq=>by subst q;rw[G]at d;cases d;simp at j) d,j⟩;exact H.extBut _ _ k (kd _ _ v (ka.extBut _ _ k (p c o k q)))
 |false=>
  apply ac;apply ac;apply ac;apply dh;apply ac;by_cases U:i<n1
  .refine B.item i _ _ _ U T λx hb C V W g=>ar (ar ?_);replace g:cy i1 l hb:=g;have r:S2 n2 hb:=by rw[show n2=i by omega];exact m.frame _ _ _ e2 λb h o e=>g.extBut b o (λq=>D.Ap (q▸h)) e
   apply ac;apply ac;apply dh;apply ac;exact m.done _ _ _ r λhd e kd t=>J hd C e (λc o k M v I q=>kd _ _ I (g.extBut _ _ v (p c o k q))) t
  .have y:S1 n1 l:=show n1=i by omega▸T
   exact B.done _ _ _ y λhd e kd t=>J hd s.toks e (λc o k M v I q=>kd _ _ v (p c o k q)) t
end
section
variable {prog:cw}{w:World}{A:gk}{E:Value->ay->Prop}{s:ay}
theorem zau (a:s.heap.IsTupleIter it t i)(m:s.heap.IsTuple t items)(o:items[i]?=Z9 x)
  (p:∀e,e.IsTupleIter it t (i+1)->cy it s.heap e->Q x {s with heap:=e}):wpAny (model prog w) A (oo (.ref it)) Q E s:=by
 have ty:=a.typeIs;obtain⟨⟨k,f,g,b⟩,c,hc,hd⟩:=a;obtain⟨⟨l,h,j,d⟩,to,tc,n,q⟩:=m;cases hc;cases hd;cases tc;cases q;apply ac;refine gy ty F.slot_tuple_iterator_next (gf F.slot_tuple_iterator_next ty F.entry_tuple_iterator_next ?_ (F.args_tuple_iterator_next_1 _));show wpAny _ _ (field (.ref it) 0>>=_) _ _ _;apply ac;refine fy c rfl rfl ?_;apply ac;refine fy c rfl rfl ?_;apply ac;refine gw to rfl ?_
 dsimp only
 rw[ju i,o];apply ac;refine wpAny_setField c rfl (by simp) (ar ⟨x,rfl,ar (p _ ⟨_,l8 _ c rfl,rfl,?_⟩ (tf _ _ _))⟩);rfl
theorem z6s (hh:A.handled=Z8)(a:s.heap.IsTupleIter it t i)(q:s.heap.IsTuple t items)(r:items[i]?=Z8)
  (u:∀f e,Heap.ExtBut it s.heap f->(∃o,f.get? e=Z9 o/\o.cls=.type "StopIteration")->E (.ref e) {s with heap:=f}):wpAny (model prog w) A (oo (.ref it)) Q E s:=by
 have ty:=a.typeIs;obtain⟨⟨m,g,h,c⟩,j,hc,hd⟩:=a;obtain⟨⟨p,k,l,d⟩,to,tc,n,v⟩:=q;cases hc;cases hd;cases tc;cases v;apply ac;refine gy ty F.slot_tuple_iterator_next (gf F.slot_tuple_iterator_next ty F.entry_tuple_iterator_next ?_ (F.args_tuple_iterator_next_1 _));show wpAny _ _ (field (.ref it) 0>>=_) _ _ _;apply ac;refine fy j rfl rfl ?_;apply ac;refine fy j rfl rfl ?_;apply ac;refine gw to rfl ?_
 dsimp only
 rw[ju i,r];apply ac;refine n7 ?_;apply ac;refine wpAny_setField j rfl (by simp) ?_
 delta Builtin.SmallTypes.stopIteration
 repeat (any_goals (first|assumption|wp_step))
 refine wpAny_raiseNew_none hh (u _ _ (λb o x e=>?_) ⟨_,ax _ rfl,rfl⟩);refine ah _ (ah _ ?_);rw[sx _ _ _ _ x];exact e
theorem RA (hh:A.handled=Z8)(it t:Addr)(c:t≠it)(items:Array Value):Draws prog w A it [it,t] items.size (λi v=>items[i]?=Z9 v) (λi h=>h.IsTupleIter it t i/\h.IsTuple t items) where
 live:=λi h st=>let⟨⟨o,d,_⟩,_⟩:=st;⟨o,d⟩
 frame:=λi h f st k=>by obtain⟨⟨o,d,r⟩,b,a,e⟩:=st;exact⟨⟨o,k it (by simp) o d,r⟩,b,k t (by simp) b a,e⟩
 item:=λi l q u g st m=>by refine zau st.1 st.2 (oq g) λf n j=>?_;obtain⟨b,a,e⟩:=st.2;exact m _ f l.toks (oq g) ⟨n,b,j.extBut t b c a,e⟩ j
 done:=λs Q E st p=>z6s hh st.1 st.2 (Array.getElem?_eq_none (af _)) p
end
def IsB (h:Heap)(l:Bool)(a:Addr)(xs:Array Value):Prop:=match l with
 |true=>h.IsList a xs
 |false=>h.IsTuple a xs
def iW (h:Heap)(l:Bool)(it a:Addr)(i:Nat):Prop:=match l with
 |true=>h.IsListIter it a i
 |false=>h.IsTupleIter it a i
def gD (K:Z5)(H:Hp)(l:Bool)(a:Addr)(vs:List V):Prop:=match l with
 |true=>SqL K H a vs
 |false=>bF K H a vs
def nG (K:Z5)(H:Hp)(B:Ad->Prop)(l:Bool)(a:Addr)(vs:List V):Prop:=match l with
 |true=>(H a=Z9 (.lst vs)/\B (Z9 a))\/(FL K H a vs/\B Z8)
 |false=>bF K H a vs
abbrev cM (l:Bool)(a:Addr):Obj:={cls:=.type (if l then "list_iterator"else "tuple_iterator"),data:=.fields #[.ref a,.int 0 0]}
theorem nG.keep {K:Z5}(h:nG K H B l a c)(k:Kp B H d):gD K d l a c:=by
 cases l with
 |true=>
  rcases h with⟨h,b⟩|⟨⟨o,h⟩|h,_⟩
  .exact .inl (.inl (k a _ h (.inl b)))
  .exact .inl (.inr ⟨o,k a _ h (.inr True.intro)⟩)
  .exact .inr h
 |false=>exact bF.keep k h
theorem nG.of {K:Z5}(r:Rep K H B v d)(e:seqR d=.ok c):∃l a b,v=.ref a/\nG K H B l a b/\Reps K H B b c/\c.length<=aQ:=by
 cases d<;>try (exact(fE e).elim)
 case list ds=>
  have e:(if decide (ds.length<=aQ)=Z7 then Res.ok ds else Res.no)=Res.ok c:=e;split at e
  .rename_i hc;cases e;obtain⟨a,b,rfl,h,rs⟩:=r;exact⟨Z7,a,b,rfl,h,rs,xn hc⟩
  .cases e
 case tuple ds=>
  have e:(if decide (ds.length<=aQ)=Z7 then Res.ok ds else Res.no)=Res.ok c:=e;split at e
  .rename_i hc;cases e;obtain⟨a,b,rfl,h,rs⟩:=r;exact⟨Z6,a,b,rfl,h,rs,xn hc⟩
  .cases e
section
variable {X:Cx}{pins:List (Addr×Obj)}{σ:L2.St}{H:Hp}{s:ay}
theorem gD.items (I:Inv X d f H s)(h:gD X.K H l a e):∃b,Vals e b/\IsB s.heap l a b.toArray/\e.length=b.length:=by
 cases l with
 |true=>obtain⟨b,c,p,_⟩:=I.list h;exact⟨b,c,p.isList,c.length⟩
 |false=>obtain⟨b,c,p,_⟩:=I.tuple h;exact⟨b,c,p,c.length⟩
end
theorem vC (hh:A.handled=Z8)(l:Bool)(it a:Addr)(b:a≠it)(items:Array Value):Draws prog w A it [it,a] items.size (λi v=>items[i]?=Z9 v) (λi h=>iW h l it a i/\IsB h l a items):=by
 cases l with
 |true=>exact Draws.list hh it a b items
 |false=>exact RA hh it a b items
theorem iW.live (x:iW h l it a i):∃o,h.get? it=Z9 o/\∀v,o.data≠.cell v:=by cases l<;>(obtain⟨o,b,_,hd⟩:=x;exact⟨o,b,λv z=>by rw[hd]at z;cases z⟩)
theorem iW.keep (x:iW h l it a i)(k:∀o,h.get? it=Z9 o->b.get? it=Z9 o):iW b l it a i:=by cases l<;>(obtain⟨o,c,r⟩:=x;exact⟨o,k o c,r⟩)
theorem iW.new (x:h.get? b=Z9 (cM l a)):iW h l b a 0:=by cases l<;>exact⟨_,x,rfl,rfl⟩
theorem IsB.lt (x:IsB h l a c):a<h.objs.size:=by cases l<;>(obtain⟨o,b,_⟩:=x;exact bh b)
theorem IsB.push (x:IsB h l a b)(o:Obj):IsB (h.push o) l a b:=by cases l<;>(obtain⟨q,c,r⟩:=x;exact⟨q,ah _ c,r⟩)
theorem Aq (h:IsB s.heap l a c)(b:Q (.ref s.heap.objs.size) {s with heap:=s.heap.push (cM l a)}):wpAny (model prog w) A (qx (.ref a)) Q E s:=by
 cases l with
 |true=>exact jp h b
 |false=>exact ug h b
section
variable {X:Cx}{pins:List (Addr×Obj)}{σ:L2.St}{H:Hp}{s:ay}
theorem _root_.L2.Inv.turnedTL {h:List Addr}(I:Inv X a l H s)(f:∀b∈h,FpOk X a H b)(keep:∀b q,b∉h->s.heap.get? b=Z9 q->i.get? b=Z9 q)(j:s.heap.objs.size<=p)
  (new:z0z X.prog X.w (upd H p (.tup xs)) i p (.tup xs)):Inv X a l (upd H p (.tup xs)) {s with heap:=i,toks:=t'}:=by
 have hn:=I.hok.fresh j;have d:∀b u,H b=Z9 u->b∉h:=λb u k z=>by rw[(f b z).1]at k;cases k
 refine I.step (λb g=>?_) (λb q _ _ hc e _=>keep b q hc e) (λb q _ _ hc e _=>⟨q.slots,keep b q hc e⟩) (λb q _ e n=>by rw[aA (cx (cf (bh e) j))];exact n) (λb q hc e=>⟨q,keep b q hc e⟩) (λb xs q=>by rw[aA (bY q hn)];exact q) (λb u xs q=>by rw[aA (bY q hn)];exact q) (λb ps q=>⟨#[],by rw[aA (bY q hn),q];simp⟩) (λm hm=>?_) (λb u e=>?_) I.bare
 .obtain⟨y,o,A,r,t,x⟩:=f b g;exact⟨r,o,t,x⟩
 .exact hm.at λq e=>keep _ q (λz=>(f _ z).2.1 rfl) e
 .by_cases g:b=p
  .subst g;rw[aO]at e;cases e;exact new
  .rw[aA g]at e;refine(I.hok b u e).stay (λc v hc q=>keep c v ?_ q) (λc q=>by rw[aA (bY q hn)];exact q) λc xs q=>by rw[aA (bY q hn)];exact q
   rcases hc with rfl|hc
   .exact d _ _ e
   .exact d _ _ hc
theorem _root_.L2.Inv.iX {g:List Addr}(I:Inv X a j H s)(f:∀b∈g,FpOk X a H b)(keep:∀b q,b∉g->s.heap.get? b=Z9 q->k.get? b=Z9 q):Inv X a j H {s with heap:=k,toks:=t'}:=by
 have d:∀b u,H b=Z9 u->b∉g:=λb u h z=>by rw[(f b z).1]at h;cases h
 refine I.step (λb l=>?_) (λb q _ _ hc e _=>keep b q hc e) (λb q _ _ hc e _=>⟨q.slots,keep b q hc e⟩) (λb q _ e n=>n) (λb q hc e=>⟨q,keep b q hc e⟩) (λb i q=>q) (λb u i q=>q) (λb ps q=>⟨#[],by rw[q];simp⟩) (λm hm=>?_) (λb u e=>?_) I.bare
 .obtain⟨w,o,x,p,r,t⟩:=f b l;exact⟨p,o,r,t⟩
 .exact hm.at λq e=>keep _ q (λz=>(f _ z).2.1 rfl) e
 .refine(I.hok b u e).stay (λc v hc q=>keep c v ?_ q) (λc q=>q) λc i q=>q;rcases hc with rfl|hc
  .exact d _ _ e
  .exact d _ _ hc
end
theorem DZ (f:Vals b a)(d:i<b.length)(g:a.toArray[i]?=Z9 x):∃v,b[i]?=Z9 v/\RelV v x:=by
 refine⟨b[i],aq d,?_⟩;obtain⟨u,e,h⟩:=f.get (aq d);have c:a[i]?=Z9 x:=by simpa using g
 rw[c]at e;cases e;exact h
def D4 (K:Z5)(l:Bool)(t:Addr)(vs:List V):It:=⟨λi H=>gD K H l t vs/\i<vs.length,λi H x H'=>∃p v,vs[i]?=Z9 v/\H p=Z8/\x=.ref p/\H'=upd H p (.tup [.int i,v]),λi H=>gD K H l t vs/\i=vs.length⟩
theorem zdy {K:Z5}(V:t≠c)(Y:t≠e)(B:e≠c):
  Turn P w K (.Tuple j x1 pos) (D4 K l t vs) [e,c] e (λi h=>(∃old,IsEnum h e c i old)/\iW h l c t i) where
 mem:=by simp
 obj:=λi h st b hb=>by
  obtain⟨⟨old,d⟩,a⟩:=st;rcases(ao.mp hb)with rfl|hb
  .exact⟨_,d,λv z=>by cases z⟩
  .obtain rfl:b=c:=by simpa using hb
   exact a.live
 keep:=λi h G st k=>by obtain⟨⟨old,d⟩,a⟩:=st;exact⟨⟨old,k e (by simp) _ d⟩,a.keep λo=>k c (by simp) o⟩
 item:=by
  intro X J L M N i m s σ H E I hf st O;subst J L M;obtain⟨Q,R⟩:=O;obtain⟨⟨old,d⟩,a⟩:=st;obtain⟨g,rv,p,hl⟩:=gD.items I Q;have S:X.A.in1.handled=none:=I.ok.hd N;have D:=vC (prog:=X.prog) (w:=X.w) S l c t V g.toArray;obtain⟨oi,T,_⟩:=a.live;refine wpAny_pyNext_enum_itemD D d ⟨a,p⟩ (by grind) B (by simp[B,Ne.symm Y]) λx G C hx n U r Z kp=>⟨_,rfl,?_⟩;have F:s.heap.objs.size≠e/\s.heap.objs.size≠c:=⟨λz=>cu _ (z▸bh d),λz=>cu _ (z▸bh T)⟩;refine(WalksT.enumerateD D e B (by simp[B,Ne.symm Y]) (by simp)).go j x1 pos i s.heap.objs.size {s with heap:=G,toks:=C+1} _ _ ⟨⟨x,n⟩,U,F.1,F.2⟩ λkY f u=>?_;have y:s.heap.objs.size∉ [e,c]:=by simp[F.1,F.2]
  obtain⟨v,hv,rx⟩:=DZ rv R hx;have I1:=I.turnedTL (t':=C+1) (xs:=[.int i,v]) hf (λb q hb z=>u b q hb (kp b q (λz=>hb (by simp[z])) (λz=>hb (by simp[z])) z)) (af _) ⟨by rw[bt];simp,[.int i C,x],.cons ⟨C,rfl⟩ (.cons rx .nil),0,(u s.heap.objs.size _ y r)⟩;refine⟨.ref s.heap.objs.size,_,I1,rfl,⟨_,v,hv,I.hok.fresh (af _),rfl,rfl⟩,⟨f.1,f.2.1⟩,λb hb=>?_⟩;rw[aA λz:b=s.heap.objs.size=>y (z▸hb)];exact(hf b hb).1
 done:=by intro X J L M N i m s σ H E I hf st O;subst J L M;obtain⟨Q,R⟩:=O;obtain⟨⟨old,d⟩,a⟩:=st;obtain⟨g,rv,p,hl⟩:=gD.items I Q;have S:X.A.in1.handled=none:=I.ok.hd N;exact wpAny_pyNext_enum_endD (vC (prog:=X.prog) (w:=X.w) S l c t V g.toArray) d ⟨by rw[bw,<-hl,<-R];exact a,p⟩ λG eb=>⟨rfl,I.iX hf λb o hb z=>eb b o (λq=>hb (by simp[q])) z⟩
 self:=λ_ _ _ _ _ st h=>by obtain⟨⟨old,d⟩,_⟩:=st;exact vi d h
theorem JE:∀a (k i:Nat),(z29 k a)[i]?=(a[i]?).map λx=>.tuple [.int ((k+i:Nat):Int),x]
 | [],k,i=>by simp[z29]
 |x::a,k,0=>by simp[z29]
 |x::a,k,i+1=>by
  rw[z29,la,la,JE a (k+1) i];have:k+1+i=k+(i+1):=by omega
  rw[this]
theorem Ar:∀a k,(z29 k a).length=a.length
 | [],_=>rfl
 |x::a,k=>by rw[z29,bz,bz,Ar a]
theorem RB {K:Z5}(b:nG K H B l t c)(rs:Reps K H B c g)(n:g.length<=bb):Walk K (D4 K l t c) B H (z29 0 g):=by
 have o:=rs.length;constructor
 .rw[Ar];exact n
 .intro j kp i h;rw[Ar]at h;exact⟨b.keep kp,by omega⟩
 .intro j kp;exact⟨b.keep kp,by rw[Ar];exact o.symm⟩
 .rintro j kp i x u h ⟨p,v,r,k,rfl,rfl⟩
  obtain⟨d,hd,s⟩:=Reps.eS rs r;refine⟨Same.upd k,.tuple [.int i,d],by rw[JE,hd];simp,p,[.int i,v],rfl,bF.of aO,?_⟩;refine Reps.cons rfl (Reps.cons ?_ rfl);exact Rep.keep (λa q e f=>by have m:=kp a q e f;rw[aA (bY m k)];exact m) (λ_ z=>z) d s
theorem zb7 (l:Bool)(t:Addr)(items:Array Value):Meets (Builtin.«enumerate.__new__» {pos:=[.type "enumerate",.ref t]}) fun _ R s=>
  IsB s.heap l t items/\R (.ok (.ret (.ref (s.heap.push (cM l t)).objs.size))) {s with heap:=(s.heap.push (cM l t)).push {cls:=.type "enumerate",data:=.fields #[.none,.bool Z6,.ref s.heap.objs.size,kr 0,.none,.none]}}:=by
 rintro prog w A R s ⟨a,d⟩
 have sub:=sub_enumerate
 delta Builtin.«enumerate.__new__»
 repeat (any_goals (first|assumption|(apply Aq a)|wp_step))
 refine wpAny_stack λst _ _ _=>?_;refine jl (Q:=λ_ c=>c=s) (ar rfl) (λb c hs=>?_) λ_ _ x=>x;subst hs;cases b
 all_goals repeat (any_goals (first|assumption|(apply Aq a)|wp_step))
 all_goals exact d
theorem zgz (a:IsB s.heap l t items)
  (b:Q (.ref (s.heap.push (cM l t)).objs.size) {s with heap:=(s.heap.push (cM l t)).push {cls:=.type "enumerate",data:=.fields #[.none,.bool Z6,.ref s.heap.objs.size,kr 0,.none,.none]}}):wpAny (model prog w) A (call (.type "enumerate") [.ref t]) Q E s:=by
 refine callType_new F.called_enumerate dc (F.typeCall_enumerate_1 _) (F.newCall_enumerate_1 _) (λobj=>?_) F.entry_enumerate_new (zb7 l t items) ⟨a,⟨_,ax _ rfl,rfl⟩,b⟩;exact F.args_object_init_2 _ _
section
variable {X:Cx}{pins:List (Addr×Obj)}{σ:L2.St}
theorem z4m (k:Inv X a m f c)(C:RelV y v)(D:Rep X.K f B y d)(e:seqR d=.ok E)(q:∀J,Walk X.K J B f (z29 0 E)->R J f):
  wpAny (model X.prog X.w) X.A (call (.type "enumerate") [v]) (λF G=>wpAny (model X.prog X.w) X.A (qx F) (uG X a m (.Tuple u O tp) R) X.xe G) X.xe c:=by
 obtain⟨l,t,H,rfl,x,n,I⟩:=nG.of D e;cases C;obtain⟨L,M,pt,_⟩:=gD.items k (x.keep (Kp.of (Same.refl f)));refine zgz pt ?_;generalize p:c.heap.push (cM l t)=i;have j:i.objs.size=c.heap.objs.size+1:=p▸mf _ _;have r:Inv X a m f {c with heap:=i}:=k.kept λb o e=>p▸ah _ e;generalize g:i.push {cls:=.type "enumerate",data:=.fields #[.none,.bool Z6,.ref c.heap.objs.size,kr 0,.none,.none]}=h;have N:Inv X a m f {c with heap:=h}:=r.kept λb o e=>g▸ah _ e;have g1:h.get? i.objs.size=Z9 {cls:=.type "enumerate",data:=.fields #[.none,.bool Z6,.ref c.heap.objs.size,kr 0,.none,.none]}:=g▸ax _ rfl;have g2:h.get? c.heap.objs.size=Z9 (cM l t):=by rw[<-g];refine ah _ ?_;rw[<-p];exact ax _ rfl
 have z:=pt.lt;refine vi g1 (⟨i.objs.size,[i.objs.size,c.heap.objs.size],_,D4 X.K l t H,f,rfl,N,zdy (cx z) (cx (lm z (j▸Nat.lt_succ_self _))) (j▸Nat.succ_ne_self _),⟨⟨.none,g1⟩,iW.new g2⟩,λb s=>?_,q _ (RB x n (jT I))⟩);rcases(ao.mp s)with rfl|s
 .exact r.eN (af _) (r.hok.fresh (af _))
 .obtain rfl:b=c.heap.objs.size:=by simpa using s
  exact k.eN (af _) (k.hok.fresh (af _))
end
def JF (K:Z5)(l1:Bool)(a1:Addr)(vs:List V)(l2:Bool)(a2:Addr)(ws:List V):It:=⟨λi H=>gD K H l1 a1 vs/\gD K H l2 a2 ws/\i<min vs.length ws.length,λi H x H'=>∃p v w,vs[i]?=Z9 v/\ws[i]?=Z9 w/\H p=Z8/\x=.ref p/\H'=upd H p (.tup [v,w]),λi H=>gD K H l1 a1 vs/\gD K H l2 a2 ws/\i=min vs.length ws.length⟩
def JG (z TI TO i1 i2:Addr)(l1:Bool)(a1:Addr)(l2:Bool)(a2:Addr)(i:Nat)(h:Heap):Prop:=(∃f0 f1,ZF f0/\h.get? z=Z9 (ZRec TI TO f0 f1))/\PairAt h TI (.ref i1) (.ref i2)/\(∃a b,PairAt h TO a b)/\iW h l1 i1 a1 i/\iW h l2 i2 a2 i
theorem zq1 {TI TO:Addr}(ht:(isTup e||isNm e)=Z7)(hf:ZF a)(d:s.heap.get? z=Z9 (ZRec TI TO a i))
  (f:∀b c,ZF c->b.get? z=Z9 (ZRec TI TO c i)->cy z s.heap b->Q () {s with heap:=b}):wpAny (model prog w) A (jn e (.ref z) (.ref T)) Q E s:=by
 cases e<;>first|(cases ht;done)|exact ar (f s.heap a hf d (Heap.SameBut.refl ..))|skip
 delta jn
 apply ac;refine ud d ?_;show wpAny _ _ (if(_&&(a::_:List Value).toArray[0]?==Z9 (kr T))=Z7 then _ else _) Q E s;by_cases h:(Z9 a==Z9 (kr T))=Z7
 .rw[xh (by simpa using h)];apply ac;exact n7 (ge d (by simp) λb g j=>f b .none (.inl rfl) g j)
 .rw[xk (by simpa using h)];exact ar (f s.heap a hf d (Heap.SameBut.refl ..))
theorem zg2 {TI TO:Addr}(D:ZApart z TI TO i1 f p q)(r:Draws prog w A.in1 i1 p t u m)(v:Draws prog w A.in1 f q B P2 n)(hf:ZF f0)(o:s.heap.get? z=Z9 (ZRec TI TO f0 T))(g:PairAt s.heap TI (.ref i1) (.ref f))(h:PairAt s.heap TO a b)(C:m i s.heap)(G:n i s.heap)(H:i<t)(l2:i<B)
  (I:∀x y c j d e k l,u i x->P2 i y->ZF d->c.get? z=Z9 (ZRec TI TO d e)->PairAt c TO k l->m (i+1) c->n (i+1) c->PairAt c s.heap.objs.size x y->Zk z TO i1 f s.heap c->Q (Z9 (.ref s.heap.objs.size)) {s with heap:=c,toks:=j}):wpAny (model prog w) A (vq (.ref z)) Q E s:=by
 have ty:s.TypeIs (.ref z) "zip":=⟨_,o,rfl⟩
 delta vq
 apply ac;apply wpAny_attempt;refine gy ty F.slot_zip_next (gf F.slot_zip_next ty F.entry_zip_next ?_ (F.args_zip_next_1 _));exact zfv D r v hf o g h C G H l2 λx y c j d e k l J K L M N O P R S=>ar (I x y c j d e k l J K L M N O P R S)
theorem zhu {TI TO:Addr}(D:ZApart z TI TO i1 i2 p1 p2)(D1:Draws prog w A.in1 i1 p1 n1 P1 S1)(D2:Draws prog w A.in1 i2 p2 n2 P2 S2)(hf:ZF f0)(hz:s.heap.get? z=Z9 (ZRec TI TO f0 f1))(hTI:PairAt s.heap TI (.ref i1) (.ref i2))(hTO:PairAt s.heap TO a b)(h1:S1 i s.heap)(h2:S2 i s.heap)(hl:i=min n1 n2)
  (hQ:∀h' tk,Zk z TO i1 i2 s.heap h'->Q Z8 {s with heap:=h',toks:=tk}):wpAny (model prog w) A (vq (.ref z)) Q E s:=by
 have ty:s.TypeIs (.ref z) "zip":=⟨_,hz,rfl⟩
 delta vq
 apply ac;apply wpAny_attempt;refine gy ty F.slot_zip_next (gf F.slot_zip_next ty F.entry_zip_next ?_ (F.args_zip_next_1 _));refine zlh D D1 D2 hf hz hTI hTO h1 h2 hl λh' tk e kp he=>?_;obtain⟨o,ho,hc⟩:=he;apply ac;exact wpAny_isInstance ⟨o,ho,hc⟩ isSubtype_stop (ar (hQ _ _ kp))
theorem zgw {K:Z5}{TI TO:Addr}(ht:(isTup tg||isNm tg)=Z7)(D:ZApart z TI TO i1 m [i1,B] [m,a2])(n1:B≠i1)(n2:a2≠m):
  Turn P w K tg (JF K l1 B vs l2 a2 ws) [z,TI,TO,i1,m] z (JG z TI TO i1 m l1 B l2 a2) where
 mem:=by simp
 obj:=λi h st b hb=>by
  obtain⟨⟨C,G,_,g⟩,d,⟨a,c,f⟩,n,p⟩:=st;simp at hb;rcases hb with rfl|rfl|rfl|rfl|rfl
  .exact⟨_,g,λv q=>by cases q⟩
  .exact⟨_,d,λv q=>by cases q⟩
  .exact⟨_,f,λv q=>by cases q⟩
  .exact n.live
  .exact p.live
 keep:=λi h h' st k=>by obtain⟨⟨C,G,hf,g⟩,d,⟨a,c,f⟩,n,p⟩:=st;exact⟨⟨C,G,hf,k z (by simp) _ g⟩,k TI (by simp) _ d,⟨a,c,k TO (by simp) _ f⟩,n.keep λo=>k i1 (by simp) o,p.keep λo=>k m (by simp) o⟩
 item:=by
  intro X U V Y J i L s σ H E I hf st Z;subst U V Y;obtain⟨r,t,hi⟩:=Z;obtain⟨⟨C,G,zf,g⟩,d,⟨a,c,f⟩,n,p⟩:=st;obtain⟨j,M,b1,e1⟩:=gD.items I r;obtain⟨l,N,b2,e2⟩:=gD.items I t;have O:X.A.in1.handled=none:=I.ok.hd J;refine zg2 D (vC (prog:=X.prog) (w:=X.w) O l1 i1 B n1 j.toArray) (vC (prog:=X.prog) (w:=X.w) O l2 m a2 n2 l.toArray) zf g d f ⟨n,b1⟩ ⟨p,b2⟩ (by grind) (by grind) λx y h' tk DT nD a' b' hx hy RC Ah Q RD xA new kp=>⟨_,rfl,?_⟩;refine zq1 ht RC Ah λkY R S T sb=>?_;have lt:∀{c o},s.heap.get? c=Z9 o->s.heap.objs.size≠c:=λe q=>cu _ (q▸bh e);obtain⟨o1,yj,_⟩:=n.live;obtain⟨o2,RE,_⟩:=p.live;have RF:s.heap.objs.size∉ [z,TI,TO,i1,m]:=by simp[lt g,lt d,lt f,lt yj,lt RE]
  have up:=λc o J e=>sb.extBut c o J e;obtain⟨v,hv,rx⟩:=DZ M (by omega) hx;obtain⟨u,hu,ry⟩:=DZ N (by omega) hy;have I1:=I.turnedTL (t':=tk) hf (λb q hb e=>up b q (λq=>hb (by simp[q])) (kp b q (λq=>hb (by simp[q])) (λq=>hb (by simp[q])) (λq=>hb (by simp[q])) (λq=>hb (by simp[q])) e)) (af _) ⟨by rw[bt];simp,[x,y],.cons rx (.cons ry .nil),0,(up _ _ (lt g) new)⟩;refine⟨.ref s.heap.objs.size,_,I1,rfl,⟨_,v,u,hv,hu,I.hok.fresh (af _),rfl,rfl⟩,⟨⟨R,nD,S,T⟩,up _ _ D.TIz (kp _ _ D.TIz D.TITO D.TIi1 D.TIi2 d),⟨a',b',up _ _ D.TOz Q⟩,RD.1.keep λo=>up _ o D.i1z,xA.1.keep λo=>up _ o D.i2z⟩,λb hb=>?_⟩;rw[aA λq:b=s.heap.objs.size=>RF (q▸hb)];exact(hf b hb).1
 done:=by intro X U V Y J i L s σ H E I hf st Z;subst U V Y;obtain⟨r,t,hi⟩:=Z;obtain⟨⟨C,G,zf,g⟩,d,⟨a,c,f⟩,n,p⟩:=st;obtain⟨j,M,b1,e1⟩:=gD.items I r;obtain⟨l,N,b2,e2⟩:=gD.items I t;have O:X.A.in1.handled=none:=I.ok.hd J;refine zhu D (vC (prog:=X.prog) (w:=X.w) O l1 i1 B n1 j.toArray) (vC (prog:=X.prog) (w:=X.w) O l2 m a2 n2 l.toArray) zf g d f ⟨n,b1⟩ ⟨p,b2⟩ (by grind) λh' tk kp=>⟨rfl,I.iX hf λb q hb e=>?_⟩;exact kp b q (λq=>hb (by simp[q])) (λq=>hb (by simp[q])) (λq=>hb (by simp[q])) (λq=>hb (by simp[q])) e
 self:=λ_ _ _ _ _ st h=>by obtain⟨⟨C,G,_,g⟩,_⟩:=st;have ty:Shared.TypeIs _ (.ref z) "zip":=⟨_,g,rfl⟩;refine vj ty F.slot_zip_iter (gf F.slot_zip_iter ty F.entry_zip_iter ?_ (F.args_zip_iter_1 _));exact ar ⟨_,rfl,"zip",_,ty,F.slot_zip_next.lookup,h⟩
theorem JH:∀a b (i:Nat) {x y:D},a[i]?=Z9 x->b[i]?=Z9 y->(zipD a b)[i]?=Z9 (.tuple [x,y])
 |x::a,y::b,0,_,_,c,d=>by cases c;cases d;rfl
 |x::a,y::b,i+1,_,_,c,d=>JH a b i c d
 | [],_,i,_,_,c,_=>by simp at c
 |_::_,[],i,_,_,_,d=>by simp at d
theorem As:∀a b,(zipD a b).length=min a.length b.length
 | [],_=>by simp[zipD]
 |_::_,[]=>by simp[zipD]
 |x::a,y::b=>by show(zipD a b).length+1=min (a.length+1) (b.length+1);rw[As a b];omega
theorem RG {K:Z5}(l:nG K H B w y m)(b:nG K H B l2 a2 ws)(n:Reps K H B m c)(o:Reps K H B ws r)(C:c.length<=bb):Walk K (JF K w y m l2 a2 ws) B H (zipD c r):=by
 have D:=n.length;have E:=o.length;constructor
 .rw[As];omega
 .intro g kp i h;rw[As]at h;exact⟨l.keep kp,b.keep kp,by omega⟩
 .intro g kp;exact⟨l.keep kp,b.keep kp,by rw[As];omega⟩
 .rintro g kp i x F h ⟨p,v,u,A,hu,s,rfl,rfl⟩
  obtain⟨d,hd,rv⟩:=Reps.eS n A;obtain⟨t,j,k⟩:=Reps.eS o hu;have kk:∀a q,H a=Z9 q->(B (Z9 a)\/Fix q)->upd g p (.tup [v,u]) a=Z9 q:=λa q e f=>by have b:=kp a q e f;rw[aA (bY b s)];exact b
  exact⟨Same.upd s,.tuple [d,t],JH c r i hd j,p,[v,u],rfl,bF.of aO,Reps.cons (Rep.keep kk (λ_ z=>z) d rv) (Reps.cons (Rep.keep kk (λ_ z=>z) t k) rfl)⟩
theorem zct (b l2:Bool)(a a2:Addr)(g h:Array Value):Meets (Builtin.«zip.__new__» ⟨[.type "zip",.ref a,.ref a2],[]⟩) fun _ R s=>IsB s.heap b a g/\IsB s.heap l2 a2 h/\
  ∀c d e f i,c=s.heap.push (cM b a)->d=c.push (cM l2 a2)->e=d.push {cls:=.type "tuple",data:=.seq #[.ref s.heap.objs.size,.ref c.objs.size]}->f=e.push {cls:=.type "tuple",data:=.seq #[.none,.none]}->i=f.push {cls:=.type "zip",data:=.fields #[.none,.bool Z6,.bool Z6,.ref d.objs.size,.ref e.objs.size]}->R (.ok (.ret (.ref f.objs.size))) {s with heap:=i}:=by
 rintro prog w A R s ⟨l,m,n⟩
 have sub:=sub_zip;obtain⟨j,gs,dp,k,os⟩:=s;have o:IsB (Shared.heap ⟨j,gs,dp,k,os⟩) b a g:=l;have p:IsB (Shared.heap ⟨j.push (cM b a),gs,dp,k,os⟩) l2 a2 h:=m.push _
 wp_walk using Aq o,Aq p
 exact n _ _ _ _ _ rfl rfl rfl rfl rfl
section
variable {X:Cx}{pins:List (Addr×Obj)}{σ:L2.St}
theorem zaa (ht:(isTup W||isNm W)=Z7)(t:Inv X pins σ g c)(r1:RelV y1 u1)(r2:RelV y2 u2)(L:Rep X.K g B y1 d1)(M:Rep X.K g B y2 d2)(e1:seqR d1=.ok xs)(e2:seqR d2=.ok ys)(q:∀J,Walk X.K J B g (zipD xs ys)->R J g):
  wpAny (model X.prog X.w) X.A (call (.type "zip") [u1,u2]) (λv' s2=>wpAny (model X.prog X.w) X.A (qx v') (uG X pins σ W R) X.xe s2) X.xe c:=by
 obtain⟨G,N,Y,rfl,Z,w1,z1⟩:=nG.of L e1;obtain⟨l2,a2,ws,rfl,q2,w2,z2⟩:=nG.of M e2;cases r1;cases r2;obtain⟨u,_,b1,_⟩:=gD.items t (Z.keep (Kp.of (Same.refl g)));obtain⟨v,_,b2,_⟩:=gD.items t (q2.keep (Kp.of (Same.refl g)));refine callType_new F.called_zip (by decide) (F.typeCall_zip_2 _ _) (F.newCall_zip_2 _ _) (λobj=>F.args_object_init_3 obj _ _) F.entry_zip_new (zct G l2 N a2 u.toArray v.toArray) ⟨b1,b2,?_⟩;intro m k s n H O Q S U k5;have d:m.objs.size=c.heap.objs.size+1:=O▸mf _ _;have p:k.objs.size=c.heap.objs.size+2:=by rw[Q,mf,d]
 have r:s.objs.size=c.heap.objs.size+3:=by rw[S,mf,p]
 have C:n.objs.size=c.heap.objs.size+4:=by rw[U,mf,r]
 have p2:∀b o,m.get? b=Z9 o->k.get? b=Z9 o:=λb o e=>by rw[Q];exact ah _ e
 have V:∀b o,k.get? b=Z9 o->s.get? b=Z9 o:=λb o e=>by rw[S];exact ah _ e
 have I:∀b o,s.get? b=Z9 o->n.get? b=Z9 o:=λb o e=>by rw[U];exact ah _ e
 have D:∀b o,n.get? b=Z9 o->H.get? b=Z9 o:=λb o e=>by rw[k5];exact ah _ e
 have I5:Inv X pins σ g {c with heap:=H}:=t.kept λb o e=>D b o (I b o (V b o (p2 b o ((λb o e=>by rw[O];exact ah _ e) b o e))));have g5:H.get? n.objs.size=Z9 (ZRec k.objs.size s.objs.size .none Z6):=k5▸ax _ rfl;have t1:=b1.lt;have t2:=b2.lt;have Da:ZApart n.objs.size k.objs.size s.objs.size c.heap.objs.size m.objs.size [c.heap.objs.size,N] [m.objs.size,a2]:=by have f:∀{i j:Nat},i≠j->c.heap.objs.size+i≠c.heap.objs.size+j:=λh z=>h (Nat.add_left_cancel z);have l:∀{j:Nat},0≠j->c.heap.objs.size≠c.heap.objs.size+j:=λh=>f h;have no:∀{x y z:Addr},x≠y->x≠z->x∉ [y,z]:=λm k h=>(ao.mp h).elim m λq=>k (ak.mp q);have na:∀{a:Addr} {j:Nat},a<c.heap.objs.size->c.heap.objs.size+j≠a:=λh z=>cu _ (cf h (z▸jd _ _));rw[d,p,r,C];exact⟨f (by decide),f (by decide),l (by decide),f (by decide),f (by decide),(l (by decide)).symm,f (by decide),(l (by decide)).symm,f (by decide),l (by decide),no (l (by decide)).symm (na t1),no (l (by decide)).symm (na t1),no (l (by decide)).symm (na t1),no (f (by decide)) (na t2),no (f (by decide)) (na t2),no (l (by decide)) (na (j:=0) t2)⟩
 have T:=zgw (P:=X.prog) (w:=X.w) (K:=X.K) (l1:=G) (l2:=l2) (vs:=Y) (ws:=ws) ht Da (cx t1) (d▸cx (Nat.lt_succ_of_lt t2));have St:JG n.objs.size k.objs.size s.objs.size c.heap.objs.size m.objs.size G N l2 a2 0 H:=⟨⟨.none,Z6,.inl rfl,g5⟩,D _ _ (I _ _ (S▸ax _ rfl)),⟨_,_,(D _ _ (U▸ax _ rfl))⟩,iW.new (D _ _ (I _ _ (V _ _ (p2 _ _ (O▸ax _ rfl))))),iW.new (D _ _ (I _ _ (V _ _ (Q▸ax _ rfl))))⟩;refine⟨⟨_,g5,rfl⟩,T.self _ 0 _ _ _ St ⟨n.objs.size,_,_,_,g,rfl,I5,T,St,λb hb=>?_,q _ (RG Z q2 w1 w2 (jT z1))⟩⟩
 have E:c.heap.objs.size<=b:=by
  rw[d,p,r,C]at hb;simp at hb;rcases hb with rfl|rfl|rfl|rfl|rfl
  .exact jd _ _
  .exact jd _ _
  .exact jd _ _
  .exact af _
  .exact jd _ _
 exact t.eN E (t.hok.fresh E)
end
section
variable {X:Cx}{a b:Expr}{fa fb:Rho->Res GD}{p pos:Pos}
theorem D5:df "enumerate"=Z9 (.type "enumerate"):=by decide+kernel
theorem JI:df "zip"=Z9 (.type "zip"):=by decide+kernel
theorem D6 (hs:isStar a=Z6)(c:PE X a (tD X.K fa)):PA X [a] (tDA X.K λb=>fa b>>=λx=>.ok [x]):=by refine PA.imp (C9 hs c Iq) λg H Q ⟨b,F,z,so,e,q⟩=>⟨b,F,z,so,?_,q⟩;obtain⟨x,d,e⟩:=Res.aB e;show(fa b>>=λx=>Res.ok []>>=λf=>Res.ok (x::f))=_;rw[d];exact e
theorem JJ (hs:isStar a=Z6)(RH:isStar b=Z6)(ha:PE X a (tD X.K fa))(hb:PE X b (tD X.K fb)):PA X [a,b] (tDA X.K λρ=>fa ρ>>=λx=>fb ρ>>=λy=>.ok [x,y]):=by refine PA.imp (C9 hs ha (D6 RH hb)) λσ H Q ⟨ρ,F,z,so,e,q⟩=>⟨ρ,F,z,so,?_,q⟩;obtain⟨x,e1,e⟩:=Res.aB e;obtain⟨y,e2,e⟩:=Res.aB e;show(fa ρ>>=λx=>(fb ρ>>=λy=>Res.ok [y])>>=λxs=>Res.ok (x::xs))=_;rw[e1,e2];exact e
theorem D7 {fs:Rho->Res GD}(h:(fs ρ>>=λx=>Res.ok [x])=.ok ys):∃x,fs ρ=.ok x/\ys=[x]:=by obtain⟨x,e,h⟩:=Res.aB h;cases h;exact⟨x,e,rfl⟩
theorem D8 {K:Z5}(so:StOk K F H j k)(hc:pU x=Z7)(e:seqR x.2=.ok l)(c:Rep K f (BG F H x.1) v x.2):∃B,Rep K f B v x.2/\(∀a,B (Z9 a)->F.O a=Z8)/\∀a,B a->BI F .al a:=by
 obtain⟨g,d⟩:=x;cases d<;>try (exact(fE e).elim)
 case list ds=>
  have b:g≠.al:=λz=>by subst z;cases hc
  exact⟨_,c,λa h=>Du so b h,λa h=>BI.of so.aK (BG.aK so.aK h)⟩
 case tuple ds=>
  rcases ij.mp hc with b|i
  .have b:g≠ .al:=λz=>by subst z;cases b
   exact⟨_,c,λa h=>Du so b h,λa h=>BI.of so.aK (BG.aK so.aK h)⟩
  .exact⟨λ_=>False,Rep.aT _ i c,λ_ h=>h.elim,λ_ h=>h.elim⟩
theorem RI (h:(fa ρ>>=λx=>fb ρ>>=λy=>Res.ok [x,y])=.ok ys):∃x y,fa ρ=.ok x/\fb ρ=.ok y/\ys=[x,y]:=by obtain⟨x,e,h⟩:=Res.aB h;obtain⟨y,a,h⟩:=Res.aB h;cases h;exact⟨x,y,e,a,rfl⟩
theorem D9 (ht:(isTup tg||isNm tg)=Z7)(hm:X.mg "zip"=Z8)(t:Gl X "zip")(hs:isStar a=Z6)(f:isStar b=Z6)(ha:PE X a (tD X.K fa))(hb:PE X b (tD X.K fb)):PI X tg (.Call (.Name "zip" p) [a,b] [] pos) (tDW X.K λρ=>fa ρ>>=λx=>fb ρ>>=λy=>seqR x.2>>=λn=>seqR y.2>>=λo=>.ok (.al,zipD n o)):=by
 rintro g s u H R I ⟨ρ,F,w,so,e,q⟩
 obtain⟨x,v,e⟩:=Res.aB e;obtain⟨y,A,e⟩:=Res.aB e;obtain⟨n,B,e⟩:=Res.aB e;obtain⟨o,C,e⟩:=Res.aB e;cases e;refine Call_ (z2j I t hm JI (PyProof.Rows.callWith_type1 (aN (JJ hs f ha hb pos g s u H (λh d=>Same H d/\dH X.K F H d h [x,y]) I ⟨ρ,F,[x,y],so,by show(fa ρ>>=λx=>fb ρ>>=λy=>Res.ok [x,y])=_;rw[v,A];rfl,λh d r i=>⟨r,i⟩⟩) λG r ⟨h,d,D,E,sm,i⟩=>?_) (dW hs) (by rw[dW f];rfl)));obtain⟨L,M,rfl,j,k⟩:=i.two;obtain⟨N,O,rfl,l,m⟩:=vals2 E;exact zaa ht D l m ((Rep.there _ j).weak (B':=λc=>bM F c/\¬nw d c) λc z=>⟨BG.aK so.aK z.1,z.2⟩) ((Rep.there _ k).weak (B':=λc=>bM F c/\¬nw d c) λc z=>⟨BG.aK so.aK z.1,z.2⟩) B C λJ wk=>q J _ d sm (λc z=>z) wk
theorem RJ (ht:(isTup o||isNm o)=Z7)(hm:X.mg "zip"=Z8)(E:Gl X "zip")(hs:isStar a=Z6)(f:isStar b=Z6)(ha:PE X a (tD X.K fa))(hb:PE X b (tD X.K fb)):PI X o (.Call (.Name "zip" p) [a,b] [] pos) (tDF X.K λd=>(fa d>>=λx=>fb d>>=λy=>.ok [x,y])>>=λr=>oJ r d):=by
 rintro g s L H R I ⟨d,F,w,so,e,q⟩
 obtain⟨t,M,e⟩:=Res.aB e;obtain⟨x,y,N,O,rfl⟩:=RI M;have e:(if(pU x&&pU y)=Z7 then(seqR x.2>>=λu=>seqR y.2>>=λt=>Res.ok (G.al,zipD u t,d))else Res.no)=Res.ok w:=e;split at e
 case isFalse=>cases e
 rename_i P;obtain⟨Q,S⟩:=az.mp P;obtain⟨u,v,e⟩:=Res.aB e;obtain⟨r,A,e⟩:=Res.aB e;cases e;refine Call_ (z2j I E hm JI (PyProof.Rows.callWith_type1 (aN (JJ hs f ha hb pos g s L H (λi h=>Same H h/\dH X.K F H h i [x,y]) I ⟨d,F,[x,y],so,by show(fa d>>=λx=>fb d>>=λy=>Res.ok [x,y])=_;rw[N,O];rfl,λi h B j=>⟨B,j⟩⟩) λus B ⟨i,h,T,U,sm,j⟩=>?_) (dW hs) (by rw[dW f];rfl)));obtain⟨v1,v2,rfl,k,l⟩:=j.two;obtain⟨u1,u2,rfl,m,n⟩:=vals2 U;obtain⟨C,V,W,Y⟩:=D8 so Q v k;obtain⟨D,Z,m2,m3⟩:=D8 so S A l;exact zaa ht T m n (V.weak (B':=λc=>C c\/D c) λc z=>.inl z) (Z.weak (B':=λc=>C c\/D c) λc z=>.inr z) v A λJ wk=>q J _ h F sm Run.refl (cO.same sm) (so.same sm) (λc z=>z.elim (W c) (m2 c)) (λc z=>z.elim (Y c) (m3 c)) wk
theorem D' (hm:X.mg "enumerate"=Z8)(k:Gl X "enumerate")(hs:isStar a=Z6)(l:PE X a (tD X.K fa)):PI X (.Tuple h x1 tp) (.Call (.Name "enumerate" p) [a] [] pos) (tDW X.K λf=>fa f>>=λx=>seqR x.2>>=λi=>.ok (.al,z29 0 i)):=by
 rintro b s m H R I ⟨f,F,w,so,e,q⟩
 obtain⟨x,n,e⟩:=Res.aB e;obtain⟨i,o,e⟩:=Res.aB e;cases e;refine Call_ (z2j I k hm D5 (PyProof.Rows.callWith_type1 (aN (D6 hs l pos b s m H (λg d=>Same H d/\dH X.K F H d g [x]) I ⟨f,F,[x],so,by show(fa f>>=λx=>Res.ok [x])=_;rw[n];rfl,λg d j rs=>⟨j,rs⟩⟩) λC j ⟨g,d,r,t,sm,rs⟩=>?_) (dW hs) rfl));obtain⟨v,rfl,y⟩:=rs.one;obtain⟨u,rfl,A⟩:=vals1 t;exact z4m r A (Rep.there _ y) o λJ B=>q J _ d sm (λc z=>⟨BG.aK so.aK z.1,z.2⟩) B
theorem RK (hm:X.mg "enumerate"=Z8)(l:Gl X "enumerate")(hs:isStar a=Z6)(m:PE X a (tD X.K fa)):PI X (.Tuple g M tp) (.Call (.Name "enumerate" p) [a] [] pos) (tDF X.K λb=>(fa b>>=λx=>.ok [x])>>=λh=>oI h b):=by
 rintro c s n H R I ⟨b,F,w,so,e,q⟩
 obtain⟨h,o,e⟩:=Res.aB e;obtain⟨x,r,rfl⟩:=D7 o;have e:(if pU x=Z7 then(seqR x.2>>=λi=>Res.ok (G.al,z29 0 i,b))else Res.no)=Res.ok w:=e;split at e
 case isFalse=>cases e
 rename_i hc;obtain⟨i,j,e⟩:=Res.aB e;cases e;refine Call_ (z2j I l hm D5 (PyProof.Rows.callWith_type1 (aN (D6 hs m pos c s n H (λf d=>Same H d/\dH X.K F H d f [x]) I ⟨b,F,[x],so,by show(fa b>>=λx=>Res.ok [x])=_;rw[r];rfl,λf d k rs=>⟨k,rs⟩⟩) λN k ⟨f,d,t,y,sm,rs⟩=>?_) (dW hs) rfl));obtain⟨v,rfl,z⟩:=rs.one;obtain⟨u,rfl,A⟩:=vals1 y;obtain⟨B,C,D,E⟩:=D8 so hc j z;exact z4m t A C j λJ L=>q J B d F sm Run.refl (cO.same sm) (so.same sm) D E L
theorem RL (h:PA X es (tDA X.K fs))(hb:PE X b (tD X.K fb))(hl:∀f u,fs f=.ok u->u.length<=bb):PE X (.BinOp (.List es lp) .Mult b pos) (tD X.K λf=>fs f>>=λc=>fb f>>=λn=>xI c n.2):=by
 refine PE.imp (B7 OV (Ca h) hb) λS H Q C=>?_;obtain⟨f,F,z,so,e,q⟩:=C;obtain⟨c,w,e⟩:=Res.aB e;obtain⟨n,D,e⟩:=Res.aB e;refine⟨f,F,c,so,w,λj T E I=>?_⟩;have r:=I.jS λx hx a h=>uV so.aK hx h;refine⟨by rw[r.length,ae];exact hl f c w,λp y=>?_⟩;have sm:=E.trans (Same.upd (o:=.lst j) y);refine⟨f,F,n,so.same sm,D,λv J l rv=>?_⟩;obtain⟨g,d⟩:=n;cases d<;>try (exact(fE e).elim)
 rename_i k;have e:(if imms (c.map (·.2))=Z7/\0<=k/\k<=aQ/\c.length*k.toNat<=aQ then Res.ok (G.fr,Z0 (xG k.toNat (c.map (·.2))))else Res.no)=Res.ok z:=e;split at e
 case isFalse=>cases e
 rename_i L;obtain⟨M,h0,A,N⟩:=L;cases e;obtain rfl:v=.int k:=rv;have s:j.length=c.length:=by rw[r.length,ae]
 refine⟨p,k,j,rfl,rfl,l _ _ aO,by unfold aQ at A;omega,by unfold aQ at A;omega,jT (s▸N),λB i=>?_⟩;refine q _ _ ((sm.trans l).trans (Same.upd i)) ?_
 have O:Reps X.K J (BG F H .fr) (xG k.toNat j) (xG k.toNat (c.map (·.2))):=by
  unfold xG;generalize k.toNat=m
  induction m with
  |zero=>exact rfl
  |succ m P=>rw[mw];exact Reps.append (Reps.aT _ M (r.same ((Same.upd y).trans l) λ_ z=>z)) P
 have t:H B=none:=by
  cases R:H B with
  |none=>rfl
  |some o=>have:=(sm.trans l) _ _ R;rw[i]at this;cases this
 exact oT i O (λ_ z=>z) t
end
abbrev yp:List Value:=[.type "ValueError",.type "Exception",.type "BaseException",.type "object"]
abbrev Ea (K:Z5)(C:Addr):Bool:=W.excIn K C yp "ValueError.__new__"
def yq (K:Z5)(C:Addr):Bool:=match K.lookup C with
 |some ⟨.type "type",_,.cls cd,sl⟩=>(match cd.mro,sl.toList with
  |.ref D::bm,[_,_,_,_,Z9 (.builtin n),_]=>(D==C)&&(n=="ValueError.__new__")&& !cd.hasDel&&W.tailIn K yp bm&&W.nsOkIn K cd.ns
  |_,_=>Z6)
 |_=>Z6
def XC (C:Addr)(h:Heap)(bm:List Value):Prop:=∃N nm q bs sI sn sub ab col dd k0 k1 k2 k3 k5 mN,h.get? C=Z9 (excClassObj nm q C N bs bm sI sn sub ab col dd k0 k1 k2 k3 k5 "ValueError.__new__")/\h.Ns N mN/\OwnTail h yp bm
def JK (C:Addr)(h:Heap)(bm:List Value):Prop:=∃N nm q bs sI sn sub ab col dd k0 k1 k2 k3 k5 mN,h.get? C=Z9 (excClassObj nm q C N bs bm sI sn sub ab col dd k0 k1 k2 k3 k5 "ValueError.__new__")/\h.Ns N mN/\mN "__init__"=Z8/\OwnTail h yp bm
theorem yt:(a&&b)=Z7->a=Z7/\b=true:=az.mp
theorem RM {K:Z5}{C:Addr}(q:Ea K C=Z7):yq K C=Z7/\∀a cd sl,K.lookup C=Z9 ⟨.type "type",a,.cls cd,sl⟩->W.nsIn K cd.ns "__init__"=Z9 none:=by
 unfold Ea W.excIn at q;unfold yq;split at q
 .rename_i a cd sl b;split at q
  .rename_i A bm h i j k n l hm hs;obtain⟨q,c⟩:=yt q;refine⟨?_,λd f g e=>by rw[b]at e;cases e;exact xr c⟩;simp only[b,hm,hs];exact q
  .cases q
 .cases q
theorem JL {K:Z5}{C:Addr}(q:yq K C=Z7):∃a cd bm h i j k l,K.lookup C=Z9 ⟨.type "type",a,.cls cd,#[h,i,j,k,Z9 (.builtin "ValueError.__new__"),l]⟩/\cd.mro=.ref C::bm/\cd.hasDel=Z6/\W.tailIn K yp bm=Z7/\W.nsOkIn K cd.ns=true:=by
 unfold yq at q;split at q
 .rename_i a cd sl m;split at q
  .rename_i A bm b c d e n f hm hs;obtain⟨q,o⟩:=yt q;obtain⟨q,p⟩:=yt q;obtain⟨q,g⟩:=yt q;obtain⟨r,s⟩:=yt q;have t:sl=#[b,c,d,e,Z9 (.builtin n),f]:=Array.toList_inj.mp (by rw[hs]);refine⟨a,cd,bm,b,c,d,e,f,?_,?_,?_,p,o⟩
   .rw[m,t,xr s]
   .rw[hm,xr r]
   .cases hd:cd.hasDel with
    |false=>rfl
    |true=>rw[hd]at g;cases g
  .cases q
 .cases q
theorem RN {K:Z5}{C:Addr}(a:K.lookup C=Z9 ⟨.type "type",c,.cls cd,sl⟩)(hm:cd.mro=.ref C::bm)(e:W.subIn K (.ref C) v=Z9 b):(ZU C::bm).contains v=b:=by
 have e:W.mroIn K C v=Z9 b:=e;unfold W.mroIn W.clsIn at e;rw[a]at e
 dsimp at e
 rw[hm]at e;exact xl e
theorem XC.mk {K:Z5}{C:Addr}(X:K.In h)(q:yq K C=Z7):∃bm,XC C h bm/\∀v b,W.subIn K (.ref C) v=Z9 b->(ZU C::bm).contains v=b:=by
 obtain⟨d,cd,bm,f,g,i,j,k,a,hm,hd,l,m⟩:=JL q;refine⟨bm,⟨cd.ns,cd.name,cd.qualname,cd.bases,cd.hasDict,cd.slotNames,cd.subclasses,cd.abstract,cd.collection,d,f,g,i,j,k,h.nsMap cd.ns,?_,.of_isNs (W.isNs_of_in X m),W.tail_of_in X l⟩,λv b e=>RN a hm e⟩;have c:=X _ _ a;cases cd
 dsimp only at hm hd
 rw[hm,hd]at c;exact c
theorem JK.mk {K:Z5}{C:Addr}(X:K.In h)(q:Ea K C=Z7):∃bm,JK C h bm:=by
 obtain⟨d,e⟩:=RM q;obtain⟨f,cd,bm,g,i,j,k,l,a,hm,hd,m,b⟩:=JL d;refine⟨bm,cd.ns,cd.name,cd.qualname,cd.bases,cd.hasDict,cd.slotNames,cd.subclasses,cd.abstract,cd.collection,f,g,i,j,k,l,h.nsMap cd.ns,?_,.of_isNs (W.isNs_of_in X b),W.nsMap_none_of_in X b (e _ _ _ a),W.tail_of_in X m⟩;have c:=X _ _ a;cases cd
 dsimp only at hm hd
 rw[hm,hd]at c;exact c
section
variable {prog:cw}{w:World}{A:gk}{E:Value->ay->Prop}{K:Z5}{h:Heap}{g:Array GenState}{d:Drawn}{t:Nat}{os:qq}{C e:Addr}{oe:Obj}
structure XV (K:Z5)(v:Value):Prop where
 ty:∀(M:Model) (h:Heap),K.In h->W.Looks M h (w6 v) (.type "type")
 is:∀(M:Model) (h:Heap),K.In h->W.Looks M h (isType v) Z7
theorem RO {D:Addr}(X:K.In h)(q:(W.clsIn K D).isSome=Z7):W.Looks M h (isType (.ref D)) true:=by
 unfold W.clsIn at q;split at q
 .rename_i a;intro A Q E s k z;refine ac (ud (k _ _ (X _ _ a)) ?_);exact ar z
 .cases q
theorem XV.own {D:Addr}(t:W.typeIn K (.ref D)=Z9 (.type "type"))(q:(W.clsIn K D).isSome=Z7):XV K (.ref D):=⟨λM h X=>W.looks_typeIn X t,λM h X=>RO X q⟩
theorem XV.val:XV K (.type "ValueError"):=⟨λM h X=>W.Looks.of_pure (by kernel_rfl),λM h X=>W.Looks.of_pure rfl⟩
end
def RP (h base:Heap)(e:Addr)(cls:Value)(dd:Option Addr)(fl:Value):Prop:=∃ob vs T tr ts,h.get? e=Z9 ob/\ob.cls=cls/\ob.dict=dd/\ob.data=.fields vs/\vs[1]?=Z9 (.ref T)/\base.get? T=Z8/\T≠e/\h.get? T=Z9 tr/\tr.data=.fields ts/\ts[3]?=Z9 fl
def JM (base:Heap)(l:List Env)(e:Addr)(cls:Value)(dd:Option Addr)(h:Heap):Prop:=base.StaysIn h/\base.get? e=Z8/\h.FunFrames base l/\RP h base e cls dd .none
theorem JM.first (x:JM base l e cls b h):∃ob a,h.get? e=Z9 ob/\ob.cls=cls/\ob.dict=b/\ob.data=.fields a:=by obtain⟨_,_,_,ob,a,_,_,_,c,d,f,g,_⟩:=x;exact⟨ob,a,c,d,f,g⟩
section
variable {M:Model}{A:gk}{E:Value->ay->Prop}{s:ay}{base:Heap}{env:Env}{outer l:List Env}{L e:Addr}{Q:Unit->ay->Prop}{cls:Value}{dd:Option Addr}
end
def CXE (P:cw)(w:World)(base:Heap):CXT:=λ_ _ _ _ _ _=>False
section
variable {P:cw}{w:World}{base:Heap}{outer:List Env}{H H':Hp}{s s':ay}{C a:Addr}{dd:Option Addr}
end
section
variable {X:Cx}{pins:List (Addr×Obj)}{σ:L2.St}{H H':Hp}{s s':ay}{C a:Addr}{dd:Option Addr}
end
section
variable {X:Cx}{n x:Str}{p p1 p2 pos:Pos}{a C:Addr}{oe:Obj}{v:V}{u:Value}{b:Bool}
end
section
theorem aD (h:(a&&b)=Z7):a=Z7/\b=true:=az.mp h
theorem aS (h:(a&&b&&c)=Z7):a=Z7/\b=Z7/\c=true:=⟨(aD (aD h).1).1,(aD (aD h).1).2,(aD h).2⟩
theorem bJ (h:(a&&b&&c&&d)=Z7):a=Z7/\b=Z7/\c=Z7/\d=true:=⟨(aS (aD h).1).1,(aS (aD h).1).2.1,(aS (aD h).1).2.2,(aD h).2⟩
theorem fG (h:(a&&b&&c&&d&&e)=Z7):a=Z7/\b=Z7/\c=Z7/\d=Z7/\e=true:=⟨(bJ (aD h).1).1,(bJ (aD h).1).2.1,(bJ (aD h).1).2.2.1,(bJ (aD h).1).2.2.2,(aD h).2⟩
theorem cG (h:(!b)=Z7):b=false:=by cases b<;>first|rfl|cases h
theorem ff {p:Prop}(h:b=Z6)(z:b=Z7):p:=by rw[h]at z;cases z
theorem eK (h:l.isEmpty=Z7):l=[]:=by cases l<;>first|rfl|cases h
theorem yu (h:(!l.isEmpty)=Z7):∃x r,l=x::r:=by cases l<;>first|exact⟨_,_,rfl⟩|cases h
theorem aJ (h:o.any f=Z7):∃v,o=Z9 v/\f v=true:=by
 cases o with
 |none=>cases h
 |some v=>exact⟨v,rfl,h⟩
theorem bV {a:Type}{o:Option a}{v:a}{q:a->Prop}(h:o=Z9 v)(d:o=Z8\/∃u,o=Z9 u/\q u):q v:=by grind
theorem yw (h:CN e=Z9 v):∃p,e=.Name v p:=bV (q:=λv=>∃p,e=.Name v p) h (by cases e<;>first|exact .inl rfl|exact .inr ⟨_,rfl,_,rfl⟩)
theorem yx (h:iE e=Z9 v):∃k p,e=.Constant v k p:=bV (q:=λv=>∃k p,e=.Constant v k p) h (by cases e<;>first|exact .inl rfl|exact .inr ⟨_,rfl,_,_,rfl⟩)
theorem Eb (h:oM e=Z9 v):∃p,e=.BinOp v.1 v.2.1 v.2.2 p:=bV (q:=λv=>∃p,e=.BinOp v.1 v.2.1 v.2.2 p) h (by cases e<;>first|exact .inl rfl|exact .inr ⟨_,rfl,_,rfl⟩)
theorem sJ (h:z3 e=Z9 v):∃p,e=.UnaryOp v.1 v.2 p:=bV (q:=λv=>∃p,e=.UnaryOp v.1 v.2 p) h (by cases e<;>first|exact .inl rfl|exact .inr ⟨_,rfl,_,rfl⟩)
theorem sM (h:pV e=Z9 v):∃p,e=.Compare v.1 v.2.1 v.2.2 p:=bV (q:=λv=>∃p,e=.Compare v.1 v.2.1 v.2.2 p) h (by cases e<;>first|exact .inl rfl|exact .inr ⟨_,rfl,_,rfl⟩)
theorem mJ (h:uR e=Z9 v):e=.BoolOp v.1 v.2.1 v.2.2:=bV (q:=λv=>e=.BoolOp v.1 v.2.1 v.2.2) h (by cases e<;>first|exact .inl rfl|exact .inr ⟨_,rfl,rfl⟩)
theorem RQ (h:xK e=Z9 v):∃p,e=.IfExp v.1 v.2.1 v.2.2 p:=bV (q:=λv=>∃p,e=.IfExp v.1 v.2.1 v.2.2 p) h (by cases e<;>first|exact .inl rfl|exact .inr ⟨_,rfl,_,rfl⟩)
theorem yy (h:lW e=Z9 v):∃k p,e=.Tuple v k p:=bV (q:=λv=>∃k p,e=.Tuple v k p) h (by cases e<;>first|exact .inl rfl|exact .inr ⟨_,rfl,_,_,rfl⟩)
theorem Ec (h:oN e=Z9 v):∃p,e=.List v p:=bV (q:=λv=>∃p,e=.List v p) h (by cases e<;>first|exact .inl rfl|exact .inr ⟨_,rfl,_,rfl⟩)
theorem sN (h:z4 e=Z9 v):∃p,e=.Dict v.1 v.2 p:=bV (q:=λv=>∃p,e=.Dict v.1 v.2 p) h (by cases e<;>first|exact .inl rfl|exact .inr ⟨_,rfl,_,rfl⟩)
theorem sO (h:gQ e=Z9 v):∃p,e=.Subscript v.1 v.2 p:=bV (q:=λv=>∃p,e=.Subscript v.1 v.2 p) h (by cases e<;>first|exact .inl rfl|exact .inr ⟨_,rfl,_,rfl⟩)
theorem RS (h:xM e=Z9 v):∃p,e=.Slice v.1 v.2.1 v.2.2 p:=bV (q:=λv=>∃p,e=.Slice v.1 v.2.1 v.2.2 p) h (by cases e<;>first|exact .inl rfl|exact .inr ⟨_,rfl,_,rfl⟩)
theorem yA (h:CO e=Z9 v):e=.Call v.1 v.2.1 v.2.2.1 v.2.2.2:=bV (q:=λv=>e=.Call v.1 v.2.1 v.2.2.1 v.2.2.2) h (by cases e<;>first|exact .inl rfl|exact .inr ⟨_,rfl,rfl⟩)
theorem Ed (h:Ii e=Z9 v):e=.Attribute v.1 v.2.1 v.2.2:=bV (q:=λv=>e=.Attribute v.1 v.2.1 v.2.2) h (by cases e<;>first|exact .inl rfl|exact .inr ⟨_,rfl,rfl⟩)
theorem yB (h:CP e=Z9 v):∃p,e=.ListComp v.1 v.2.1 v.2.2 p:=bV (q:=λv=>∃p,e=.ListComp v.1 v.2.1 v.2.2 p) h (by cases e<;>first|exact .inl rfl|exact .inr ⟨_,rfl,_,rfl⟩)
theorem eU (h:bB l=Z9 v):l=[v]:=by rcases l with _|⟨x,_|⟨y,l⟩⟩<;>cases h;rfl
theorem JN (h:rU l=Z9 v):l=[v.1,v.2]:=by rcases l with _|⟨x,_|⟨y,_|⟨z,l⟩⟩⟩<;>cases h;rfl
theorem hU (h:hP e=Z9 v):∃q p,e=.Call (.Name v.1 q) v.2 [] p:=by
 obtain⟨u,hu,h⟩:=lh.mp h;cases a:u.2.2.1.isEmpty with
 |false=>rw[a]at h;simp_all
 |true=>rw[a]at h;obtain⟨x,b,rfl⟩:=bu.mp h;obtain⟨q,c⟩:=yw b;exact⟨q,_,by rw[yA hu,c,eK a]⟩
theorem jW (h:oO e=Z9 v):∃b c,e=.Call (.Attribute v.1 v.2.1 b) v.2.2.1 [] c/\v.2.2.2=(b.endLine==c.line):=by
 obtain⟨u,hu,h⟩:=lh.mp h;cases a:u.2.2.1.isEmpty with
 |false=>rw[a]at h;simp_all
 |true=>rw[a]at h;obtain⟨x,d,rfl⟩:=bu.mp h;exact⟨_,_,by rw[yA hu,Ed d,eK a],rfl⟩
theorem gX (h:gR f e=Z7):∃x p,e=.Name x p/\f x=true:=by obtain⟨x,a,h⟩:=aJ h;obtain⟨p,b⟩:=yw a;exact⟨x,p,b,h⟩
structure Cok (Γ:Gm)(Κ:List D)(Φ:List Fn)(X:Cx)(r:Nat):Prop where
 hN:X.N=Γ.N
 hs:X.env.scope=Γ.sc
 nd:Γ.N.Nodup
 fn:Γ.blk=Z6->∀x,X.fn x=Z7
 kind:Γ.sc.kind=.function
 free:∀x,Γ.free.contains x=Z7->X.mg x=Z8
 fns:∀(j:Nat) f n,Γ.fns[j]?=Z9 (f,n)->∃m k ps,Φ[j]?=Z9 m/\k<=r/\Cal X.prog X.w X.K X.mg X.base k f ps (spD X.K n m)
 cst:∀(j:Nat) x,Γ.cst[j]?=Z9 x->∃d a,Κ[j]?=Z9 d/\X.mg x=Z9 (.ref a)/\∀H B,B Z8->Rep X.K H B (.ref a) d
 room:Γ.cm=Z7->Room r X.A
 calm:Γ.cm=Z7->X.calm=Z7
 hu:X.A.units+64<cLine
 yC:Γ.blk=Z6->X.stack=X.env::X.outer/\X.env.frame=Z9 X.env.locals
 Ee:Γ.xc=Z8->∀x u,(x,u)∈X.fx->Γ.kp.contains x=Z7
 xc:Γ.xc=Z8
section
variable {Γ:Gm}{Κ:List D}{Φ:List Fn}{X:Cx}{r:Nat}
theorem Cok.gl (k:Cok a Κ Φ X r)(h:uQ a x=Z7):Gl X x/\YC x:=by unfold uQ at h;rw[bq]at h;refine⟨?_,by simpa using h.2⟩;show X.env.scope.names.lookup x=_;rw[k.hs];simpa using h.1
theorem Cok.aK (k:Cok b Κ Φ X r)(h:eT b i x=Z7):X.N[i]?=Z9 x/\Vis X.env.scope x/\YC x/\(x==("__classdict__":Str))=false:=by
 unfold eT at h;simp at h;have⟨⟨⟨h1,a⟩,h3⟩,h4⟩:=h;refine⟨by rw[k.hN];exact h1,?_,by simpa using h3,by simpa using h4⟩;rw[k.hs];rcases a with(a|a)|a
 .exact .inl a
 .exact .inr (.inl a)
 .exact .inr (.inr a)
theorem Cok.loc (k:Cok Γ Κ Φ X r)(h:jR Γ i x=Z7):X.N[i]?=Z9 x/\Loc X.env.scope x/\Sto X x:=by
 unfold jR at h;simp only[bq,i4,beq_iff_eq,jt]at h;obtain⟨⟨c,a⟩,b,d⟩:=h;refine⟨by rw[k.hN];exact c,?_,?_,λu z=>?_⟩
 .unfold L2.Loc;rw[k.hs];rcases a with a|⟨_,a⟩
  .exact .inl a
  .exact .inr a
 .rcases a with a|⟨a,_⟩
  .exact .inr (k.hs▸a)
  .exact .inl (k.fn a x)
 .rw[k.Ee k.xc x u z]at b;cases b
theorem Cok.blt (k:Cok a Κ Φ X r)(h:cb a x=Z7):Gl X x/\X.mg x=Z8/\YC x/\x≠"__name__":=by unfold cb at h;simp only[az]at h;obtain⟨⟨b,c⟩,d⟩:=h;obtain⟨g1,g2⟩:=k.gl b;exact⟨g1,k.free x c,g2,by simpa using d⟩
theorem RT {C:Addr}:(blk X scope a C b s H).env.scope=z0 scope X.env.scope:=rfl
theorem Cok.blk (k:Cok Γ Κ Φ X r)(hk:scope.kind=.function)(nd:a.Nodup)(C:Addr)(b:List Addr)(s:ay)(H:Hp):Cok {Γ with N:=a,sc:=z0 scope Γ.sc,blk:=Z7,xc:=Z8,kp:=[]} Κ Φ (blk X scope a C b s H) r where
 hN:=rfl
 hs:=by rw[RT,k.hs]
 nd:=nd
 fn:=λz=>by cases z
 kind:=hk
 free:=k.free
 fns:=k.fns
 cst:=k.cst
 room:=k.room
 calm:=k.calm
 hu:=k.hu
 yC:=λz=>by cases z
 Ee:=λ_ _ _ z=>by cases z
 xc:=rfl
theorem RU (k:Cok a Κ Φ X r)(all:List Nat):∀{es:List Expr},CQ a is es=Z7->PGs X es (mC X.K all is)/\(g7 es X.env).length=is.length/\(g7 es X.env).findIdx? (·.1)=none:=by
 induction is with
 |nil=>intro es h;cases eK h;exact⟨Qj,rfl,rfl⟩
 |cons i is b=>
  intro es h;cases es with
  |nil=>cases h
  |cons e es=>
   obtain⟨h0,c⟩:=aD h;obtain⟨x,p,rfl,h0⟩:=gX h0;obtain⟨d,f,g⟩:=k.loc h0;obtain⟨a1,a2,a3⟩:=b c;refine⟨Qk (k.hN▸k.nd) d f g a1,?_,?_⟩
   .show(g7 es X.env).length+1=_;rw[a2];rfl
   .show((Z6,t9 (.Name x p) X.env)::g7 es X.env).findIdx? (·.1)=Z8;rw[List.findIdx?_cons,a3];rfl
theorem sP (k:Cok b Κ Φ X r)(h:kP b t e=Z7):PG X e (tDG X.K t):=by
 cases t with
 |nm i=>obtain⟨x,p,rfl,a⟩:=gX h;obtain⟨c,d,f⟩:=k.loc a;exact Qi (k.hN▸k.nd) c d f
 |tp is=>obtain⟨h0,h⟩:=aD h;obtain⟨v,g,a⟩:=aJ h;obtain⟨_,_,rfl⟩:=yy g;obtain⟨a1,a2,a3⟩:=RU k is a;exact Ql (k.calm h0) a1 rfl a3 a2.symm
theorem JO (h:plainT e=Z7)(env:Env):∀a,vp e env a=(do let v <-a;standAt e.pos;holding [v] (truthy v)):=by
 intro a;cases e<;>first|(cases h;done)|rfl|skip
 rename_i b x p;cases b<;>first|(cases h;done)|rfl
theorem qD (h:oK e=Z7)(env:Env):∀x,gx e env x=pure x:=by intro x;cases e<;>first|(cases h;done)|rfl
end
variable (Κ:List D)(Φ:List Fn)
theorem RV (c:C):∀b es d f,dN b c es=Z7->dG Κ Φ c d=.ok f->f.length=es.length/\(es.all λe=>!isStar e)=true:=by
 induction c with
 |nil=>intro b es d f h e;cases eK h;cases e;exact⟨rfl,rfl⟩
 |cons a r _ i=>
  intro b es d f h e;cases es with
  |nil=>cases h
  |cons x es=>obtain⟨j,_,k⟩:=aS h;obtain⟨y,_,e⟩:=Res.aB e;obtain⟨g,l,e⟩:=Res.aB e;cases e;obtain⟨m,n⟩:=i b es d g k l;exact⟨by rw[bz,bz,m],by rw[c8,n,j];rfl⟩
 |_=>exact λ_ _ _ _ h=>ff rfl h
end
section
theorem RW (h:tyB a T t=Z7):∃x p,t=.Name x p/\x=Str.ofString T/\cb a x=Z7/\T∈tysB:=by obtain⟨x,p,e,h⟩:=gX h;obtain⟨b,c,d⟩:=aS h;exact⟨x,p,e,xr b,c,fq.mp d⟩
theorem Ef (h:(a||b)=Z7)(n:b=Z6):a=true:=by rw[n,pd]at h;exact h
theorem RX (h:T∈tysB):df (Str.ofString T)=Z9 (.type T):=by simp only[tysB,ao,fm,or_false]at h;rcases h with rfl|rfl|rfl|rfl|rfl<;>decide+kernel
variable (Κ:List D)(Φ:List Fn)
theorem sQ:∀{c:C} {es:List Expr},dN g c es=Z7->(es.all λe=>!isStar e)=true:=by
 intro c
 induction c with
 |nil=>intro es h;cases eK h;rfl
 |cons a r _ b=>
  intro es h;cases es with
  |nil=>rfl
  |cons e es=>obtain⟨d,_,f⟩:=aS h;rw[c8,b f,d];rfl
 |_=>exact λh=>ff rfl h
theorem yD (h:dN d c es=Z7):∀b a,dG Κ Φ c b=.ok a->a.length=es.length:=λb a e=>(RV Κ Φ c d es b a h e).1
structure Sd (c:C):Prop where
 E:∀(Γ:Gm) (X:Cx) (r:Nat) (e:Expr),Cok Γ Κ Φ X r->chkE Γ c e=Z7->PE X e (tD X.K (aE Κ Φ c))
 T:∀(Γ:Gm) (X:Cx) (r:Nat) (e:Expr),Cok Γ Κ Φ X r->eE Γ c e=Z7->PT X e (dS X.K (dF Κ Φ c))/\((∃o l p,e=.BoolOp o l p)->PW X e (dS X.K (dF Κ Φ c)))
 Q:∀(Γ:Gm) (X:Cx) (r:Nat) (l:Expr) (ops:List CmpOp) (rs:List Expr) (pos:Pos),Cok Γ Κ Φ X r->chkE Γ c (.Compare l ops rs pos)=Z7->PT X (.Compare l ops rs pos) (dS X.K λρ=>aE Κ Φ c ρ>>=λx=>iS x.2)
 A:∀(Γ:Gm) (X:Cx) (r:Nat) (es:List Expr),Cok Γ Κ Φ X r->dN Γ c es=Z7->PA X es (tDA X.K (dG Κ Φ c))
 O:∀(Γ:Gm) (X:Cx) (r:Nat) (e:Option Expr),Cok Γ Κ Φ X r->oP Γ c e=Z7->PO X e (tDO X.K (rS Κ Φ c))
 W:∀(Γ:Gm) (X:Cx) (r:Nat) (e tg:Expr),Cok Γ Κ Φ X r->z6 c tg=Z7->iF Γ c e=Z7->PI X tg e (tDW X.K (evW Κ Φ c))
 G:∀(Γ:Gm) (X:Cx) (r:Nat) (e:Expr),Cok Γ Κ Φ X r->rW Γ c e=Z7->∃a,c=.tv a/\PE X e (tD X.K (aE Κ Φ a))
def pB:C->Nat
 |.and _ _|.or _ _|.not _|.tv _|.nil|.cons _ _|.kM _|.enum _|.zip _ _=>2
 |.cmp _ _ _=>1
 |_=>0
variable {Κ:List D}{Φ:List Fn}{a b c:C}
section
variable {Γ:Gm}{e tg:Expr}{es:List Expr}{o:Option Expr}
theorem RY (h:pB c<2):eE Γ c e=false:=by cases c<;>first|rfl|exact absurd h (cu 2)
theorem RZ (h:pB c<2):dN Γ c es=false:=by cases c<;>first|rfl|exact absurd h (cu 2)
theorem R0 (h:pB c<2):oP Γ c o=false:=by cases c<;>first|rfl|exact absurd h (cu 2)
theorem R1 (h:pB c<2):iF Γ c e=false:=by cases c<;>first|rfl|exact absurd h (cu 2)
theorem R3 (h:pB c<2):rW Γ c e=false:=by cases c<;>first|rfl|exact absurd h (cu 2)
end
theorem Sd.q (f:∀a X r e,Cok a Κ Φ X r->chkE a c e=Z7->PE X e (tD X.K (aE Κ Φ c)))(g:∀a X r l b rs pos,Cok a Κ Φ X r->chkE a c (.Compare l b rs pos)=Z7->PT X (.Compare l b rs pos) (dS X.K λρ=>aE Κ Φ c ρ>>=λx=>iS x.2))(d:pB c<2):Sd Κ Φ c:=⟨f,λ_ _ _ _ _ h=>ff (RY d) h,g,λ_ _ _ _ _ h=>ff (RZ d) h,λ_ _ _ _ _ h=>ff (R0 d) h,λ_ _ _ _ _ _ _ h=>ff (R1 d) h,λ_ _ _ _ _ h=>ff (R3 d) h⟩
theorem R4 (h:pB c=0):chkE Γ c (.Compare l ops rs pos)=false:=by cases c<;>first|rfl|(cases h;done)
theorem Sd.x (b:∀Γ X r e,Cok Γ Κ Φ X r->chkE Γ c e=Z7->PE X e (tD X.K (aE Κ Φ c)))(a:pB c=0):Sd Κ Φ c:=Sd.q b (λ_ _ _ _ _ _ _ _ h=>ff (R4 a) h) (a▸Nat.zero_lt_two)
theorem R5:Sd Κ Φ (.var i):=Sd.x (λf X r e k h=>by obtain⟨x,p,rfl,h⟩:=gX h;obtain⟨a,b,c,d⟩:=k.aK h;exact PJ a b c d) rfl
theorem R6:Sd Κ Φ .bG:=Sd.x (λa X r e k h=>by obtain⟨_,_,rfl⟩:=yx (xn h);exact z9 NJ λ_ _=>rfl) rfl
theorem Eg {b:Bool}:Sd Κ Φ (.bl b):=Sd.x (λa X r e k h=>by obtain⟨_,_,rfl⟩:=yx (xn h);exact z9 NI λ_ _=>rfl) rfl
theorem R7 {b:Int}:Sd Κ Φ (.int b):=Sd.x (λa X r e k h=>by obtain⟨_,_,rfl⟩:=yx (xn h);exact z9 NH λ_ _=>rfl) rfl
theorem R8 {b:Str}:Sd Κ Φ (.str b):=Sd.x (λd X r e k h=>by obtain⟨a,c⟩:=aD h;obtain⟨_,_,rfl⟩:=yx (xn a);exact z9 NK λ_ _=>⟨rfl,c⟩) rfl
theorem R9 (d:Sd Κ Φ a)(f:Sd Κ Φ b):Sd Κ Φ (.bin o a b):=Sd.x (λc X r e k h=>by obtain⟨v,g,i⟩:=aJ h;obtain⟨p,rfl⟩:=Eb g;obtain⟨j,l,m,n⟩:=bJ i;cases xn j;exact PL l (d.E c X r _ k m) (f.E c X r _ k n)) rfl
theorem JP (h:chkE Γ (.cmp op a b) e=Z7):∃l r p,e=.Compare l [op] [r] p/\z57 op=Z7/\fj op r=Z6/\chkE Γ a l=Z7/\chkE Γ b r=true:=by obtain⟨⟨l,o,rs⟩,hv,h9⟩:=aJ h;obtain⟨p,rfl⟩:=sM hv;obtain⟨h1,h2⟩:=aD h9;obtain⟨r,hr,h3⟩:=aJ h2;cases xn h1;cases eU hr;obtain⟨h2,h3,h4,h5⟩:=bJ h3;exact⟨l,r,p,rfl,h2,cG h3,h4,h5⟩
theorem R' (j:Sd Κ Φ a)(m:Sd Κ Φ b):Sd Κ Φ (.cmp s a b):=Sd.q (λc X r e k h=>by
 obtain⟨_,_,_,rfl,d,f,g,i⟩:=JP h;exact zxv k.hu d f (j.E c X r _ k g) (m.E c X r _ k i)) (λc X r l n rs p k h=>by
 obtain⟨_,_,_,o,d,f,g,i⟩:=JP h;cases o;exact zvs k.hu d f (j.E c X r _ k g) (m.E c X r _ k i)) Nat.one_lt_two
theorem yE (h:uS f g o p xs=Z7):(∃x y,xs=[x,y]/\f x=Z7/\g y=Z7)\/∃x y z r,xs=x::y::z::r/\f x=Z7/\g (.BoolOp o (y::z::r) p)=true:=by
 rcases xs with _|⟨x,_|⟨y,_|⟨z,xs⟩⟩⟩
 .cases h
 .cases h
 .exact .inl ⟨x,y,rfl,(aD h).1,(aD h).2⟩
 .exact .inr ⟨x,y,z,xs,rfl,(aD h).1,(aD h).2⟩
theorem Sa (g:Sd Κ Φ a)(i:Sd Κ Φ b):Sd Κ Φ (.and a b) where
 E:=λc X r e k h=>by
  obtain⟨⟨o,q,p⟩,j,l⟩:=aJ h;cases mJ j;obtain⟨m,n⟩:=aD l;cases xn m;rcases yE n with⟨x,y,rfl,d,f⟩|⟨x,y,z,t,rfl,d,f⟩
  .exact Im (g.E c X r _ k d) (Hf (i.E c X r _ k f))
  .exact Im (g.E c X r _ k d) (i.E c X r _ k f)
 T:=λc X r e k h=>by
  obtain⟨⟨o,q,p⟩,j,l⟩:=aJ h;cases mJ j;obtain⟨m,n⟩:=aD l;cases xn m;rcases yE n with⟨x,y,rfl,d,f⟩|⟨x,y,z,t,rfl,d,f⟩
  .have w:=w_and (pos:=p) (g.T c X r _ k d).1 (NQ (i.T c X r _ k f).1);exact⟨w.pt,λ_=>w⟩
  .have w:=w_and (g.T c X r _ k d).1 ((i.T c X r _ k f).2 ⟨_,_,_,rfl⟩);exact⟨w.pt,λ_=>w⟩
 Q:=λ_ _ _ _ _ _ _ _ h=>ff rfl h
 A:=λ_ _ _ _ _ h=>ff rfl h
 O:=λ_ _ _ _ _ h=>ff rfl h
 W:=λ_ _ _ _ _ _ _ h=>ff rfl h
 G:=λ_ _ _ _ _ h=>ff rfl h
theorem Eh (g:Sd Κ Φ a)(i:Sd Κ Φ b):Sd Κ Φ (.or a b) where
 E:=λc X r e k h=>by
  obtain⟨⟨o,q,p⟩,j,l⟩:=aJ h;cases mJ j;obtain⟨m,n⟩:=aD l;cases xn m;rcases yE n with⟨x,y,rfl,d,f⟩|⟨x,y,z,t,rfl,d,f⟩
  .exact xU (g.E c X r _ k d) (Hf (i.E c X r _ k f))
  .exact xU (g.E c X r _ k d) (i.E c X r _ k f)
 T:=λc X r e k h=>by
  obtain⟨⟨o,q,p⟩,j,l⟩:=aJ h;cases mJ j;obtain⟨m,n⟩:=aD l;cases xn m;rcases yE n with⟨x,y,rfl,d,f⟩|⟨x,y,z,t,rfl,d,f⟩
  .have w:=w_or (pos:=p) (g.T c X r _ k d).1 (Hd (i.T c X r _ k f).1);exact⟨w.pt,λ_=>w⟩
  .have w:=w_or (g.T c X r _ k d).1 ((i.T c X r _ k f).2 ⟨_,_,_,rfl⟩);exact⟨w.pt,λ_=>w⟩
 Q:=λ_ _ _ _ _ _ _ _ h=>ff rfl h
 A:=λ_ _ _ _ _ h=>ff rfl h
 O:=λ_ _ _ _ _ h=>ff rfl h
 W:=λ_ _ _ _ _ _ _ h=>ff rfl h
 G:=λ_ _ _ _ _ h=>ff rfl h
theorem Se (i:Sd Κ Φ a):Sd Κ Φ (.not a) where
 E:=λb X r e k h=>by obtain⟨⟨o,x⟩,c,d⟩:=aJ h;obtain⟨p,rfl⟩:=sJ c;obtain⟨f,g⟩:=aD d;cases xn f;exact PR (i.E b X r _ k g)
 T:=λb X r e k h=>by obtain⟨⟨o,x⟩,c,d⟩:=aJ h;obtain⟨p,rfl⟩:=sJ c;obtain⟨f,g⟩:=aD d;cases xn f;exact⟨Ac (i.T b X r _ k g).1,λ⟨_,_,_,z⟩=>by cases z⟩
 Q:=λ_ _ _ _ _ _ _ _ h=>ff rfl h
 A:=λ_ _ _ _ _ h=>ff rfl h
 O:=λ_ _ _ _ _ h=>ff rfl h
 W:=λ_ _ _ _ _ _ _ h=>ff rfl h
 G:=λ_ _ _ _ _ h=>ff rfl h
theorem Sf (h:Ih e=Z7):∃l o r p,e=.Compare l o r p:=by cases e<;>first|exact ff rfl h|exact⟨_,_,_,_,rfl⟩
theorem Ei (d:Sd Κ Φ a):Sd Κ Φ (.tv a) where
 E:=λ_ _ _ _ _ h=>ff rfl h
 T:=λb X r e k h=>by
  obtain⟨c,f⟩:=aD h;rcases ij.mp c with c|c
  .exact⟨PU (d.E b X r _ k f) (JO c _),λ⟨_,_,_,z⟩=>by subst z;cases c⟩
  .obtain⟨_,_,_,_,rfl⟩:=Sf c;exact⟨d.Q b X r _ _ _ _ k f,λ⟨_,_,_,z⟩=>by cases z⟩
 Q:=λ_ _ _ _ _ _ _ _ h=>ff rfl h
 A:=λ_ _ _ _ _ h=>ff rfl h
 O:=λb X r e k h=>by obtain⟨v,rfl,h⟩:=aJ h;exact P' (d.E b X r _ k h)
 W:=λb X r e g k _ h=>bI (d.E b X r _ k (aD h).2)
 G:=λb X r e k h=>⟨a,rfl,d.E b X r _ k h⟩
theorem Sh (f:Sd Κ Φ c)(g:Sd Κ Φ a)(i:Sd Κ Φ b):Sd Κ Φ (.jN c a b):=Sd.x (λd X r e k h=>by obtain⟨v,j,l⟩:=aJ h;obtain⟨p,rfl⟩:=RQ j;obtain⟨m,n,o⟩:=aS l;exact PV (f.T d X r _ k m).1 (g.E d X r _ k n) (i.E d X r _ k o)) rfl
theorem Si (c:Sd Κ Φ a):Sd Κ Φ (.tup a):=Sd.x (λd X r e k h=>by obtain⟨v,f,g⟩:=aJ h;obtain⟨_,_,rfl⟩:=yy f;obtain⟨i,b⟩:=aD g;exact PX (c.A d X r _ k b) λj l e=>by rw[yD Κ Φ b j l e];exact CG (xn i)) rfl
theorem Sj (c:Sd Κ Φ a):Sd Κ Φ (.lst a):=Sd.x (λd X r e k h=>by obtain⟨v,f,g⟩:=aJ h;obtain⟨_,rfl⟩:=Ec f;obtain⟨i,b⟩:=aD g;exact PY (c.A d X r _ k b) λj l e=>by rw[yD Κ Φ b j l e];exact CG (xn i)) rfl
theorem Sk (f:Sd Κ Φ a)(g:Sd Κ Φ b):Sd Κ Φ (.rep a b):=Sd.x (λc X r e k h=>by obtain⟨⟨x,o,y⟩,i,j⟩:=aJ h;obtain⟨p,rfl⟩:=Eb i;obtain⟨l,m⟩:=aD j;obtain⟨es,n,q⟩:=aJ m;obtain⟨lp,rfl⟩:=Ec n;cases xn l;obtain⟨s,d,t⟩:=aS q;exact RL (f.A c X r _ k d) (g.E c X r _ k t) λu v e=>by rw[yD Κ Φ d u v e];exact CG (xn s)) rfl
theorem Sm:Sd Κ Φ .dR:=Sd.x (λi X r e k h=>by obtain⟨⟨a,b⟩,c,d⟩:=aJ h;obtain⟨_,rfl⟩:=sN c;obtain⟨f,g⟩:=aD d;cases eK f;cases eK g;exact PZ) rfl
theorem Ej (d:Sd Κ Φ a)(f:Sd Κ Φ b):Sd Κ Φ (.ix a b):=Sd.x (λc X r e k h=>by obtain⟨v,g,i⟩:=aJ h;obtain⟨_,rfl⟩:=sO g;obtain⟨j,l,m⟩:=aS i;exact d_ix k.hu j (d.E c X r _ k l) (f.E c X r _ k m)) rfl
theorem Ek {c:C}(d:Sd Κ Φ a)(f:Sd Κ Φ c)(g:Sd Κ Φ j):Sd Κ Φ (.sl a c j):=Sd.x (λb X r e k h=>by obtain⟨⟨x,i⟩,m,n⟩:=aJ h;obtain⟨_,rfl⟩:=sO m;obtain⟨⟨l,u,s⟩,hs,o⟩:=aJ n;obtain⟨_,rfl⟩:=RS hs;obtain⟨p,q,t,v⟩:=bJ o;cases ou.mp p;exact d_sl (d.E b X r _ k q) (f.O b X r _ k t) (g.O b X r _ k v)) rfl
theorem Sn (i:Sd Κ Φ args):Sd Κ Φ (.call j f args):=Sd.x (λl X r e k h=>by
 obtain⟨⟨x,es⟩,n,o⟩:=aJ h;obtain⟨_,_,rfl⟩:=hU n;obtain⟨a,p,q,b,s⟩:=fG o;obtain⟨y,es,rfl⟩:=yu s;obtain⟨h0,a⟩:=aD a;cases xr a;obtain⟨g1,g2⟩:=k.gl p;obtain⟨m,kk,ps,t,u,v⟩:=k.fns j _ _ (xr q);refine PE.imp (zsd v (k.room h0) u (i.A l X r _ k b) (sQ b) g1 g2 (yD Κ Φ b)) λz H Q g=>?_
 have w:aE Κ Φ (.call j x args)=λc=>dG Κ Φ args c>>=λd=>m (d.map (·.2))>>=λr=>.ok (gJ r.2 (iT r.1),r.2):=by
  funext c
  show(dG Κ Φ args c>>=λd=>match Φ[j]? with|some m=>m (d.map (·.2))>>=λr=>.ok (gJ r.2 (iT r.1),r.2)|none=>.no)=_;rw[t]
 rw[w]at g;exact g) rfl
theorem El (m:Sd Κ Φ args):Sd Κ Φ (.bi f args):=Sd.x (λn X r e k h=>by
 obtain⟨⟨x,es⟩,o,p⟩:=aJ h;obtain⟨_,_,rfl⟩:=hU o;obtain⟨a,q,c,b,s⟩:=fG p;obtain⟨y,es,rfl⟩:=yu s;have a:=xr a;obtain⟨d,g,i,j⟩:=k.blt q;obtain⟨c,l⟩:=aD c;have hf:=fq.mp c;have ha:=m.A n X r _ k b;simp at hf;rcases hf with rfl|rfl|rfl
 .exact d_cB Qa g (by rw[a];decide+kernel) ha (sQ b) d j i
 .exact d_cB (Qb (k.calm (Ef l rfl))) g (by rw[a];decide+kernel) ha (sQ b) d j i
 .exact zwl Rx g (by rw[a];decide+kernel) ha (sQ b) d j i) rfl
theorem So {f:String}(n:Sd Κ Φ a):Sd Κ Φ (.gO f a):=Sd.x (λo X r e k h=>by
 obtain⟨⟨x,es⟩,p,q⟩:=aJ h;obtain⟨_,_,rfl⟩:=hU p;obtain⟨s,t,m,u⟩:=bJ q;obtain⟨y,v,w⟩:=aJ u;obtain⟨z,A⟩:=aD w;cases eU v;have c:=xr s;obtain⟨d,g,i,j⟩:=k.blt t;obtain⟨a,rfl,ha⟩:=n.G o X r _ k A;have l:=cG z;obtain⟨m,b⟩:=aD m;have hf:f∈rV:=fq.mp m;simp only[rV,ao,fm,or_false]at hf;rcases hf with rfl|rfl|rfl|rfl|rfl|rfl
 .exact zin IJ g (by rw[c];decide+kernel) l ha d j i
 .exact za0 (Rq k.hu) g (by rw[c];decide+kernel) l ha d j i
 .exact za0 (QJ (k.calm b)) g (by rw[c];decide+kernel) l ha d j i
 .exact za0 (QH (k.calm b)) g (by rw[c];decide+kernel) l ha d j i
 .exact za0 (Q9 (k.calm b)) g (by rw[c];decide+kernel) l ha d j i
 .exact zin (QX (k.calm b)) g (by rw[c];decide+kernel) l ha d j i) rfl
theorem Sq (c:Sd Κ Φ a):Sd Κ Φ (.rN a ts):=Sd.x (λd X r e k h=>by obtain⟨⟨x,es⟩,f,g⟩:=aJ h;obtain⟨_,_,rfl⟩:=hU f;obtain⟨i,j,l⟩:=aS g;obtain⟨⟨y,t⟩,m,n⟩:=aJ l;obtain⟨o,p,q⟩:=aS n;obtain⟨T,s,u⟩:=aJ q;cases JN m;cases eU s;cases xr i;obtain⟨g1,g2,g3,C⟩:=k.blt j;obtain⟨D,F,rfl,rfl,v,b⟩:=RW u;obtain⟨w,z,A,B⟩:=k.blt v;exact zuv g2 g1 z (RX b) w B A b (cG o) (c.E d X r _ k p)) rfl
theorem Em (io:Sd Κ Φ a)(ia:Sd Κ Φ args):Sd Κ Φ (.mt m a args):=Sd.x (λΓ X r e k h=>by
 obtain⟨⟨x,n,es,b⟩,hv,h9⟩:=aJ h;obtain⟨ap,cp,rfl,hb⟩:=jW hv;obtain⟨h0,h6,h7,h8⟩:=bJ h9;obtain⟨h1,h2,h3,h4,h5⟩:=fG h0;obtain⟨y,es,rfl⟩:=yu h8;cases xr h1;have hm:=fq.mp h2;simp at hm;rcases hm with rfl
 .exact d_mt PySem.F.plainAttrs_dict PySem.F.slot_dict_get PySem.F.type_dict_get (Qq k.hu) (λ_ _ _ _ _ _ r e=>Qr r e) (io.E Γ X r _ k h6) (ia.A Γ X r _ k h7) h3 (sQ h7) (xn h5) (hb.symm.trans h4)) rfl
theorem Sr (ic:Sd Κ Φ c)(k:Cok Γ Κ Φ X n)(h:xN (xO c) (λt=>eE Γ c t) ifs=Z7):oB X ifs (dS X.K (dF Κ Φ c)):=by
 cases ifs with
 |nil=>
  have:c=.nil:=by cases c<;>first|exact ff rfl h|rfl
  subst this;refine λpins s σ H Q I q=>HY pins s σ H Q I ?_;obtain⟨ρ,F,b,so,e,q⟩:=q;cases e;exact q H (Same.refl H)
 |cons t r=>obtain⟨h1,h2⟩:=aD h;cases eK h1;exact HZ (ic.T Γ X n t k h2).1
theorem sC {c:C}(w:Sd Κ Φ it)(y:Sd Κ Φ c)(z:Sd Κ Φ f)(k:Cok l Κ Φ X r)(h:chkE l (.comp p A j q it c f) e=Z7):
  ∃el t i d a pos,e=.ListComp el [⟨t,i,d,0⟩] a pos/\BlkScope X a j p A/\(∀i∈tgIx q,i<p)/\PI X t i (tDW X.K (evW Κ Φ it))/\(∀C b s H,PG (blk X a j C b s H) t (tDG X.K q))/\(∀C b s H,oB (blk X a j C b s H) d (dS X.K (dF Κ Φ c)))/\(∀C b s H,PE (blk X a j C b s H) el (tD X.K (aE Κ Φ f)))/\(∀x,gx i X.env x=pure x)/\l.cm=true:=by
 obtain⟨⟨el,O,a⟩,B,g⟩:=aJ h;obtain⟨pos,rfl⟩:=yB B;obtain⟨⟨t,i,d,kk⟩,D,g⟩:=aJ g;cases eU D;obtain⟨h0,u,F,G,g⟩:=fG g;obtain⟨m,I,J,L,M⟩:=fG h0;obtain⟨n,m⟩:=aD m;cases xr m;have v:=HX k.hN k.hs J;have o:=λC b s H=>k.blk v.kind (xn M) C b s H;exact⟨el,t,i,d,a,pos,rfl,v,λi N=>xn ((bg.mp I) i N),w.W l X r _ t k (aD u).2 F,λC b s H=>sP (o C b s H) (aD u).1,λC b s H=>Sr y (o C b s H) G,λC b s H=>z.E _ _ r _ (o C b s H) g,qD L _,n⟩
theorem Su {cond:C}(ii:Sd Κ Φ it)(ic:Sd Κ Φ cond)(ie:Sd Κ Φ elt):Sd Κ Φ (.comp nt js N' tg it cond elt):=Sd.x (λΓ X r e k h=>by obtain⟨el,t,i,ifs,scope,pos,rfl,hB,h2,hi,hg,ht,he,hs,yF⟩:=sC ii ic ie k h;exact(zcq (k.calm yF) hB h2 hi hg ht he hs).1) rfl
theorem JQ (h:((oO e).any λm=>gR (eT f i) m.1&&(m.2.1==("items":Str))&&m.2.2.1.isEmpty&&m.2.2.2)=Z7):∃x p a c,e=.Call (.Attribute (.Name x p) "items" a) [] [] c/\eT f i x=Z7/\(a.endLine==c.line)=true:=by obtain⟨⟨x,n,es,b⟩,g,j⟩:=aJ h;obtain⟨a,c,rfl,hb⟩:=jW g;obtain⟨d,k,l,o⟩:=bJ j;obtain⟨y,p,rfl,d⟩:=gX d;cases xr k;cases eK l;exact⟨y,p,a,c,rfl,d,hb.symm.trans o⟩
theorem Sv:Sd Κ Φ (.sortI i):=Sd.x (λz X r e k h=>by obtain⟨⟨x,es⟩,c,d⟩:=aJ h;obtain⟨_,_,rfl⟩:=hU c;obtain⟨a,f,g⟩:=aS d;obtain⟨y,j,l⟩:=aJ g;cases eU j;obtain⟨A,B,C,D,rfl,m,n⟩:=JQ l;obtain⟨b,a⟩:=aD a;cases xr a;obtain⟨o,p,q,s⟩:=k.blt f;obtain⟨t,u,v,w⟩:=k.aK m;exact zmi (k.calm b) p (by show df ("sorted":Str)=_;decide+kernel) o s q t u v w n) rfl
theorem Sw:Sd Κ Φ .nil where
 E:=λ_ _ _ _ _ h=>ff rfl h
 T:=λ_ _ _ _ _ h=>ff rfl h
 Q:=λ_ _ _ _ _ _ _ _ h=>ff rfl h
 A:=λa X r es k h=>by cases eK h;exact Iq
 O:=λa X r e k h=>by cases ou.mp h;exact xV
 W:=λ_ _ _ _ _ _ _ h=>ff rfl h
 G:=λ_ _ _ _ _ h=>ff rfl h
theorem Sx (d:Sd Κ Φ a)(f:Sd Κ Φ b):Sd Κ Φ (.cons a b) where
 E:=λ_ _ _ _ _ h=>ff rfl h
 T:=λ_ _ _ _ _ h=>ff rfl h
 Q:=λ_ _ _ _ _ _ _ _ h=>ff rfl h
 A:=λc X r es k h=>by
  cases es with
  |nil=>cases h
  |cons e es=>obtain⟨g,i,j⟩:=aS h;exact C9 (cG g) (d.E c X r _ k i) (f.A c X r _ k j)
 O:=λ_ _ _ _ _ h=>ff rfl h
 W:=λ_ _ _ _ _ _ _ h=>ff rfl h
 G:=λ_ _ _ _ _ h=>ff rfl h
theorem Sy (g:Sd Κ Φ a):Sd Κ Φ (.kM a) where
 E:=λ_ _ _ _ _ h=>ff rfl h
 T:=λ_ _ _ _ _ h=>ff rfl h
 Q:=λ_ _ _ _ _ _ _ _ h=>ff rfl h
 A:=λ_ _ _ _ _ h=>ff rfl h
 O:=λ_ _ _ _ _ h=>ff rfl h
 W:=λi X r e p k _ h=>by
  obtain⟨⟨x,es⟩,j,l⟩:=aJ h;obtain⟨_,_,rfl⟩:=hU j;obtain⟨m,n,b,c⟩:=bJ l;obtain⟨c,o⟩:=aD c;cases xr m;obtain⟨g1,g2,g3,q⟩:=k.blt n;have hs:=bg.mp (sQ b);have d:=yD Κ Φ b;have f:=g.A i X r _ k b;rcases es with _|⟨x,_|⟨y,_|⟨z,_|⟨w,es⟩⟩⟩⟩
  .cases c
  .exact Qf g2 g1 (cG (hs x (.head _))) f d
  .exact Qg g2 g1 (cG (hs x (.head _))) (cG (hs y (.tail _ (.head _)))) f d
  .exact Rw g2 g1 (cG (hs x (.head _))) (cG (hs y (.tail _ (.head _)))) (cG (hs z (.tail _ (.tail _ (.head _))))) f d
  .exact absurd (xn o) (Nat.not_le.mpr (p9 (p9 (p9 (Nat.succ_pos _)))))
 G:=λ_ _ _ _ _ h=>ff rfl h
theorem Eo (h:isTup e=Z7):∃a b c,e=.Tuple a b c:=by cases e<;>first|exact ff rfl h|exact⟨_,_,_,rfl⟩
theorem JR (h:iF Γ (.enum a) e=Z7):∃y q p,e=.Call (.Name "enumerate" q) [y] [] p/\cb Γ "enumerate"=Z7/\isStar y=Z6/\chkE Γ a y=true:=by obtain⟨⟨x,es⟩,hv,h9⟩:=aJ h;obtain⟨q,p,rfl⟩:=hU hv;obtain⟨h1,h2,h3⟩:=aS h9;obtain⟨y,hy,h3⟩:=aJ h3;cases eU hy;cases xr h1;exact⟨y,q,p,rfl,h2,cG (aD h3).1,(aD h3).2⟩
theorem JS (h:iF Γ (.zip a b) e=Z7):∃y z q p,e=.Call (.Name "zip" q) [y,z] [] p/\cb Γ "zip"=Z7/\isStar y=Z6/\isStar z=Z6/\chkE Γ a y=Z7/\chkE Γ b z=true:=by obtain⟨⟨x,es⟩,f,g⟩:=aJ h;obtain⟨q,p,rfl⟩:=hU f;obtain⟨i,j,c⟩:=aS g;obtain⟨⟨y,z⟩,k,c⟩:=aJ c;cases JN k;cases xr i;obtain⟨d,l,m⟩:=aS c;exact⟨y,z,q,p,rfl,j,cG (aD d).1,cG (aD d).2,l,m⟩
theorem Sz (b:Sd Κ Φ a):Sd Κ Φ (.enum a) where
 E:=λ_ _ _ _ _ h=>ff rfl h
 T:=λ_ _ _ _ _ h=>ff rfl h
 Q:=λ_ _ _ _ _ _ _ _ h=>ff rfl h
 A:=λ_ _ _ _ _ h=>ff rfl h
 O:=λ_ _ _ _ _ h=>ff rfl h
 W:=λc X r e j k d h=>by obtain⟨y,q,p,rfl,f,g,i⟩:=JR h;obtain⟨_,_,_,rfl⟩:=Eo d;obtain⟨g1,g2,g3,l⟩:=k.blt f;exact D' g2 g1 g (b.E c X r _ k i)
 G:=λ_ _ _ _ _ h=>ff rfl h
theorem SA (d:Sd Κ Φ a)(f:Sd Κ Φ b):Sd Κ Φ (.zip a b) where
 E:=λ_ _ _ _ _ h=>ff rfl h
 T:=λ_ _ _ _ _ h=>ff rfl h
 Q:=λ_ _ _ _ _ _ _ _ h=>ff rfl h
 A:=λ_ _ _ _ _ h=>ff rfl h
 O:=λ_ _ _ _ _ h=>ff rfl h
 W:=λc X r e s k ht h=>by obtain⟨y,z,q,p,rfl,g,i,j,l,m⟩:=JS h;obtain⟨n,o,t,u⟩:=k.blt g;exact D9 ht o n i j (d.E c X r _ k l) (f.E c X r _ k m)
 G:=λ_ _ _ _ _ h=>ff rfl h
theorem SD (b:pB c=0)(hn:∀a e,chkE a c e=Z6):Sd Κ Φ c:=Sd.x (λa X r e k h=>ff (hn a e) h) b
theorem all (c:C):Sd Κ Φ c:=by
 induction c with
 |var=>exact R5
 |bG=>exact R6
 |bl=>exact Eg
 |int=>exact R7
 |str=>exact R8
 |bin _ _ _ a b=>exact R9 a b
 |cmp _ _ _ a b=>exact R' a b
 |and _ _ a b=>exact Sa a b
 |or _ _ a b=>exact Eh a b
 |not _ a=>exact Se a
 |jN _ _ _ d a b=>exact Sh d a b
 |tup _ a=>exact Si a
 |lst _ a=>exact Sj a
 |dR=>exact Sm
 |ix _ _ a b=>exact Ej a b
 |sl _ _ _ a b d=>exact Ek a b d
 |call _ _ _ a=>exact Sn a
 |bi _ _ a=>exact El a
 |gO _ _ a=>exact So a
 |rN _ _ a=>exact Sq a
 |mt _ _ _ a b=>exact Em a b
 |comp _ _ _ _ _ _ _ a b d=>exact Su a b d
 |sortI=>exact Sv
 |kM _ a=>exact Sy a
 |rep _ _ a b=>exact Sk a b
 |enum _ a=>exact Sz a
 |zip _ _ a b=>exact SA a b
 |tv _ a=>exact Ei a
 |nil=>exact Sw
 |cons _ _ a b=>exact Sx a b
 |_=>exact SD rfl λ_ _=>rfl
end
section
variable (Κ:List D)(Φ:List Fn)
theorem vD:ma (.ListComp el a s p) (Z9 (.Name t px)) n env=pure (env.blockKind==.function&&env.kindOf t==Z9 .local&&px.line==p.line&& !(s.names.any λ(n,k)=>n==t&&(k==.local||k==.cell))):=rfl
theorem JT (hn:lX c=Z6)(h:chkE i c (.ListComp el j s p)=Z7):∃d e f g it a b,c=.comp d e f g it a b:=by cases c<;>first|exact ff rfl h|exact⟨_,_,_,_,_,_,_,rfl⟩|(cases hn;done)
theorem JU (h:chkE a c (.SetComp el b s p)=Z7):False:=by cases c<;>exact ff rfl h
theorem JV (h:chkE b c (.DictComp el a d s p)=Z7):False:=by cases c<;>exact ff rfl h
theorem Ep (k:Cok f Κ Φ X r)(J:jR f i x=Z7)(hn:lX c=Z6)(a:chkE f c v=Z7):PS X (.Assign [.Name x px] v pos) (tDS X.K λu=>aE Κ Φ c u>>=λx=>.ok (.nx (u.set i (Z9 (z1r x))))):=by
 obtain⟨h,w,j⟩:=k.loc J;have nd:X.N.Nodup:=k.hN▸k.nd;cases y:z25 v with
 |false=>exact zp9 nd h w j (uM y _ _ _) ((all c).E f X r _ k a)
 |true=>
  cases v<;>first|(cases y;done)|skip
  .rename_i P R s p;cases g:(X.env.blockKind==.function&&X.env.kindOf x==Z9 .local&&px.line==p.line&& !(s.names.any λ(n,k)=>n==x&&(k==.local||k==.cell)))with
   |false=>exact zp9 nd h w j (by rw[vD,g]) ((all c).E f X r _ k a)
   |true=>
    obtain⟨S,T,U,V,it,b,l,rfl⟩:=JT hn a;obtain⟨L,t,W,M,m,A,e,B,h0,C,F,G,I,hs,d⟩:=sC (all it) (all b) (all l) k a;cases e;have O:X.env.scope.names.lookup x=Z9 .local:=by simp at g;exact g.1.1.2
    exact PS.imp (z6h (k.calm d) nd h O j.2 B C F G I (by rw[vD,g]) hs) λD o H q=>IE (λo H Q z=>(zcq (pos:=p) (k.calm d) B h0 C F G I hs).2 o H Q z) D o H q
  .exact(JU a).elim
  .exact(JV a).elim
theorem SE (k:Cok e Κ Φ X r)(w:xP e c t j=Z7):PI X t j (tDF X.K (evF Κ Φ c))/\oK j=true:=by
 obtain⟨ht,h⟩:=aD w;have u:=(all c).W e X r j t k ht h;cases c with
 |tv a=>
  have f:=PI.II (k:=λd=>jQ Κ Φ (.tv a) d) (Dv ((all a).E e X r _ k (aD h).2)) (IH u);refine⟨?_,(aD h).1⟩;cases a with
  |var i=>obtain⟨x,p,rfl,g⟩:=gX (aD h).2;obtain⟨A,B,C,D⟩:=k.aK g;exact PI.II (Qy A B C D) f
  |_=>exact f
 |enum a=>obtain⟨y,q,p,rfl,g,l,m⟩:=JR h;obtain⟨_,_,_,rfl⟩:=Eo ht;obtain⟨n,o,F,G⟩:=k.blt g;exact⟨RK o n l ((all a).E e X r _ k m),rfl⟩
 |zip a b=>
  obtain⟨y,z,q,p,rfl,g,l,m,H,I⟩:=JS h;obtain⟨n,o,F,G⟩:=k.blt g
  have J:evF Κ Φ (.zip a b)=λd=>(aE Κ Φ a d>>=λx=>aE Κ Φ b d>>=λy=>Res.ok [x,y])>>=λs=>oJ s d:=by
   funext d
   show((aE Κ Φ a d>>=λx=>(aE Κ Φ b d>>=λy=>Res.ok [y])>>=λL=>Res.ok (x::L))>>=λs=>oJ s d)=_;cases aE Κ Φ a d with
   |ok x=>cases aE Κ Φ b d<;>rfl
   |no=>rfl
  rw[J];exact⟨RJ ht o n l m ((all a).E e X r _ k H) ((all b).E e X r _ k I),rfl⟩
 |kM a=>refine⟨IH u,?_⟩;obtain⟨v,M,_⟩:=aJ h;obtain⟨_,_,rfl⟩:=hU M;rfl
 |_=>exact ff rfl h
theorem SF (h:isTup v=Z6):t5 [.Tuple a b c] v env=pure none:=by cases v<;>first|rfl|(cases h;done)
theorem pC (h:xQ s=Z9 v):∃p,s=.Assign v.1 v.2 p:=bV (q:=λv=>∃p,s=.Assign v.1 v.2 p) h (by cases s<;>first|exact .inl rfl|exact .inr ⟨_,rfl,_,rfl⟩)
theorem mK (h:uU s=Z9 v):∃p,s=.Expr v p:=bV (q:=λv=>∃p,s=.Expr v p) h (by cases s<;>first|exact .inl rfl|exact .inr ⟨_,rfl,_,rfl⟩)
theorem yG (h:CU s=Z9 v):∃p,s=.Return v p:=bV (q:=λv=>∃p,s=.Return v p) h (by cases s<;>first|exact .inl rfl|exact .inr ⟨_,rfl,_,rfl⟩)
theorem yH (h:CV s=Z9 v):∃p,s=.If v.1 v.2.1 v.2.2 p:=bV (q:=λv=>∃p,s=.If v.1 v.2.1 v.2.2 p) h (by cases s<;>first|exact .inl rfl|exact .inr ⟨_,rfl,_,rfl⟩)
theorem iI (h:pW s=Z9 v):∃p,s=.For v.1 v.2.1 v.2.2.1 v.2.2.2 p:=bV (q:=λv=>∃p,s=.For v.1 v.2.1 v.2.2.1 v.2.2.2 p) h (by cases s<;>first|exact .inl rfl|exact .inr ⟨_,rfl,_,rfl⟩)
structure Ss (s:S):Prop where
 R:∀(Γ:Gm) (X:Cx) (r:Nat) (st:Stmt),Cok Γ Κ Φ X r->iz (model X.prog X.w) X.A X.env X.xe->oQ Γ s st=Z7->PS X st (tDS X.K (aW Κ Φ s))
 L:∀(Γ:Gm) (X:Cx) (r:Nat) (st:List Stmt),Cok Γ Κ Φ X r->iz (model X.prog X.w) X.A X.env X.xe->chkL Γ s st=Z7->PSs X st (tDS X.K (aW Κ Φ s))
def Er:S->Bool
 |.nil=>Z6
 |.seq _ _=>Z6
 |_=>Z7
variable {Κ:List D}{Φ:List Fn}
theorem Ss.x (h:∀Γ X r st,Cok Γ Κ Φ X r->iz (model X.prog X.w) X.A X.env X.xe->oQ Γ s st=Z7->PS X st (tDS X.K (aW Κ Φ s)))(a:Er s=Z7):Ss Κ Φ s:=⟨h,by cases s<;>first|(cases a;done)|exact λ_ _ _ _ _ _ h=>ff rfl h⟩
theorem SG:Ss Κ Φ (.asg t e):=Ss.x (λd X r st k w h=>by
 obtain⟨⟨z,v⟩,f,g⟩:=aJ h;obtain⟨p,rfl⟩:=pC f;obtain⟨x,j,l⟩:=aJ g;cases eU j;obtain⟨a,m,n,c⟩:=bJ l;cases t with
 |nm i=>obtain⟨y,q,rfl,o⟩:=gX a;exact Ep Κ Φ k o (cG m) c
 |tp is=>obtain⟨s,u⟩:=aD n;obtain⟨es,b,_⟩:=aJ (aD a).2;obtain⟨_,_,rfl⟩:=yy b;exact zti (sP k a) ((all e).E d X r _ k c) ((show tz [_] _ _ _=ma _ _ _ _ from rfl).trans (uM (cG s) _ _ _)) (SF (cG u)) rfl) rfl
theorem SH:Ss Κ Φ (.dX i a b):=Ss.x (λc X r st k B h=>by obtain⟨⟨C,v⟩,d,e⟩:=aJ h;obtain⟨p,rfl⟩:=pC d;obtain⟨x,hx,f⟩:=aJ e;cases eU hx;obtain⟨⟨y,D⟩,g,j⟩:=aJ f;obtain⟨_,rfl⟩:=sO g;obtain⟨l,F,m,n,o⟩:=fG j;obtain⟨z,q,rfl,s⟩:=gX l;obtain⟨t,u,w,A⟩:=k.aK s;exact zvo k.hu t u w A (cG m) ((all a).E c X r _ k n) ((all b).E c X r _ k o)) rfl
theorem zv2:Ss Κ Φ (.mut m i args):=Ss.x (λd X r st k F h=>by obtain⟨c,e,f⟩:=aJ h;obtain⟨p,rfl⟩:=mK e;obtain⟨⟨x,n,es,b⟩,hm,g⟩:=aJ f;obtain⟨G,H,rfl,j⟩:=jW hm;obtain⟨h0,l,a⟩:=aS g;obtain⟨o,s,t,u,v⟩:=fG h0;obtain⟨z,q,rfl,w⟩:=gX o;obtain⟨y,es,rfl⟩:=yu l;cases xr s;have hm:=fq.mp t;simp at hm;obtain⟨B,C,D,E⟩:=k.aK w;subst hm;exact zgd B C D E ((all args).A d X r _ k a) (sQ a) (xn v) (j.symm.trans u)) rfl
theorem SI:Ss Κ Φ (.drop e):=Ss.x (λa X r st k g h=>by obtain⟨v,b,c⟩:=aJ h;obtain⟨p,rfl⟩:=mK b;obtain⟨d,f⟩:=aD c;exact Qw (cG d) ((all e).E a X r _ k f)) rfl
theorem SJ:Ss Κ Φ (.ret e):=Ss.x (λb X r st k s h=>by
 obtain⟨o,c,d⟩:=aJ h;obtain⟨p,rfl⟩:=yG c;obtain⟨v,rfl,a⟩:=aJ d;have g:=(all e).E b X r _ k a;cases e with
 |var i=>obtain⟨x,q,rfl,f⟩:=gX a;obtain⟨j,l,m,n⟩:=k.aK f;exact zp4 j l m n
 |_=>exact Qv g) rfl
theorem Es (f:Ss Κ Φ a)(g:Ss Κ Φ b):Ss Κ Φ (.aZ c a b):=Ss.x (λd X r st k e h=>by obtain⟨v,i,j⟩:=aJ h;obtain⟨p,rfl⟩:=yH i;obtain⟨l,m,n⟩:=aS j;exact Dl ((all c).T d X r _ k l).1 (f.L d X r _ k e m) (g.L d X r _ k e n)) rfl
theorem SK (d:Ss Κ Φ b):Ss Κ Φ (.aV t it b):=Ss.x (λe X r st k c h=>by obtain⟨a,h⟩:=aD h;obtain⟨⟨t,i,B,o⟩,f,g⟩:=aJ h;obtain⟨p,rfl⟩:=iI f;obtain⟨j,l,m,n⟩:=bJ g;cases eK n;obtain⟨hf,hn⟩:=SE Κ Φ k l;exact zxs c (k.calm a) hf (sP k j) (d.L e X r _ k c m) (qD hn _)) rfl
theorem Cok.eC (k:Cok a Κ Φ X r)(E:Value->ay->Prop):Cok a Κ Φ (X.eC E) r:=⟨k.hN,k.hs,k.nd,k.fn,k.kind,k.free,k.fns,k.cst,k.room,k.calm,k.hu,k.yC,k.Ee,k.xc⟩
theorem JW (s:S):Ss Κ Φ s:=by
 induction s with
 |nil=>exact⟨λ_ _ _ _ _ _ h=>ff rfl h,λd X r st k f h=>by cases eK h;exact Qs⟩
 |seq a b g c=>
  refine⟨λ_ _ _ _ _ _ h=>ff rfl h,λd X r st k f h=>?_⟩;cases st with
  |nil=>cases h
  |cons s st=>exact Qt (g.R d X r _ k f (aD h).1) (c.L d X r _ k f (aD h).2)
 |bad=>
  refine Ss.x (λd X r st k f h=>?_) rfl
  rintro i s l H D I ⟨m,F,j,so,e,_⟩
  cases e
 |asg=>exact SG
 |dX=>exact SH
 | «mut»=>exact zv2
 |drop=>exact SI
 |ret=>exact SJ
 |aZ _ _ _ g c=>exact Es g c
 |aV _ _ _ c=>exact SK c
theorem sL (Κ:List D)(Φ:List Fn)(s:S):∀a X r st,Cok a Κ Φ X r->iz (model X.prog X.w) X.A X.env X.xe->chkL a s st=Z7->PSs X st (tDS X.K (aW Κ Φ s)):=(JW s).L
end
section
variable (Κ:List D)(Φ:List Fn)
variable {Κ Φ}
end
section
variable {P:cw}{w:World}{K:Z5}{mg:Str->Option Value}{base:Heap}
structure Dok (Γ:Gm)(Κ:List D)(Φ:List Fn)(P:cw)(w:World)(K:Z5)(mg:Str->Option Value)(base:Heap)(k:Nat):Prop where
 free:∀x,Γ.free.contains x=Z7->mg x=Z8
 fns:∀(j:Nat) f n,Γ.fns[j]?=Z9 (f,n)->∃m k' ps,Φ[j]?=Z9 m/\k'<=k/\Cal P w K mg base k' f ps (spD K n m)
 cst:∀(j:Nat) x,Γ.cst[j]?=Z9 x->∃d a,Κ[j]?=Z9 d/\mg x=Z9 (.ref a)/\∀H B,B Z8->Rep K H B (.ref a) d
theorem SM (r:Reps K H A f b):StOk K ⟨H,λa=>H a=Z8\/A (Z9 a),λ_=>Z8,A Z8⟩ H (f.map Z9++bc (n-f.length) Z8) (b.map (λd=>Z9 (.od,d))++bc (n-b.length) Z8) where
 ext:=Same.refl H
 aK:=λa e=>.inl e
 own:=λa i e=>by cases e
 len:=by have:=r.length;simp;omega
 sl:=λi g d e=>by
  rw[mo]at e;split at e
  .rename_i j;rw[ba]at e;cases c:b[i]? with
   |none=>rw[c]at e;cases e
   |some m=>
    rw[c]at e;cases e;obtain⟨v,k,l⟩:=Reps.get r c;refine⟨v,?_,?_⟩
    .rw[mo,xh (by rw[ae,r.length];rw[ae]at j;exact j),ba,k];rfl
    .refine(Rep.there _ l).weak λa h=>?_;cases a with
     |none=>exact h.1
     |some a=>exact⟨λz=>h.2 z,.inr h.1⟩
  .rw[du]at e;split at e<;>cases e
theorem d_fn {st:Stmt}(y:Fun K x x st f fd)(c:FnScope b.N ps (z0b st))(hs:b.sc=z0b st)(hb:b.blk=Z6)(i:b.xc=Z8)(j:Dok b Κ Φ P w K mg base k)(C:chkL b s (z0t st)=Z7):
  FnOk P w K mg base lQ (k+1) f fd ps (spD K ps.length (aI Κ Φ b.N.length s)):=by
 refine y.ok c (λD H Q E h=>h.choose_spec.choose_spec.choose_spec.1) λl A outer F H D Q E hr m=>?_;obtain⟨B,u,r,hl,G,e,q⟩:=m;refine⟨_,sL Κ Φ s b (iA lQ P w K mg base b.N x (z0b st) f l A outer F H E).wL k _ ⟨rfl,hs.symm,c.nd,λ_ _=>rfl,by rw[hs];exact c.kind,j.free,j.fns,j.cst,λ_=>hr,λ_=>rfl,hr.units,λ_=>⟨rfl,rfl⟩,λ_ _ _ z=>(by cases z),i⟩ PassesOwn.never C,?_⟩;unfold aI at e;have so:=SM (n:=b.N.length) G;generalize ho:aW Κ Φ s (u.map (λd=>Z9 (.od,d))++bc (b.N.length-u.length) Z8)=p at e
 match p,ho,e with
 |.ok (.nx I),ho,e=>cases e;refine⟨_,_,_,so,ho,λJ t M L O fr=>q .bG t (λa o e=>(fr a o e rfl).1) rfl⟩
 |.ok (.rt g d),ho,e=>
  cases e;refine⟨_,_,_,so,ho,λv t hk rv=>q v t hk (rv.weak λa h=>?_)⟩;cases g with
  |fr=>cases a<;>exact h
  |nu=>cases a<;>exact h
  |od=>cases a with
   |none=>exact .inr h
   |some a=>exact h.elim .inl λz=>.inr z
  |al=>cases a with
   |none=>exact .inr h
   |some a=>exact h.elim .inl λz=>.inr z
 |.no,ho,e=>cases e
theorem SQ {ns:List Int}(h:SqL K H a (ns.map V.int)):Reps K H (λ_=>True) [.ref a] [.list (ns.map .int)]:=by
 refine⟨_,_,rfl,⟨a,ns.map V.int,rfl,?_,?_⟩,rfl⟩
 .rcases h with(h|h)|h
  .exact .inl ⟨h,trivial⟩
  .exact .inr ⟨.inl h,trivial⟩
  .exact .inr ⟨.inr h,trivial⟩
 .clear h
  induction ns with
  |nil=>rfl
  |cons n ns b=>exact⟨_,_,rfl,rfl,b⟩
end
structure Gd where
 kf:Nat
 args:C
 c:Str
 i:Nat
 j:Nat
 g:Str
 r:Bool
inductive Kd where
 |n
 |e (c:Str) (r:Bool)
 |g (d:Gd) (je:Nat)
structure aP where
 nm:Str
 st:Stmt
 N:List Str
 ps:List Str
 free:List Str
 fns:List Nat
 s:S
 F:Fn
 kd:Kd
 kc:List (Str×List Str):=[]
def cD (y:Str×List Str):D:=.tuple (y.2.map .str)
def sig (Rs:List aP)(j:Nat):Str×Nat:=match Rs[j]? with
 |some c=>(c.nm,c.ps.length)
 |none=>("",0)
def fnAt (Rs:List aP)(j:Nat):Fn:=match Rs[j]? with
 |some c=>c.F
 |none=>λ_=>.no
def aP.G (Rs:List aP)(r:aP):Gm:={N:=r.N,sc:=z0b r.st,free:=r.free,fns:=r.fns.map (sig Rs),cst:=r.kc.map (·.1)}
def Kd.JX:Kd->Bool
 |.e _ _=>Z7
 |_=>Z6
def nE (Rs:List aP)(j:Nat):Bool:=match Rs[j]? with
 |some c=>!c.kd.JX
 |none=>Z7
def gE (Rs:List aP)(d:Gd)(j:Nat):Bool:=match Rs[j]? with
 |some z=>(z.nm==d.g)&&decide (z.ps.length=1)&&(match z.kd with|.e c b=>(c==d.c)&&(b==d.r)|_=>Z6)
 |none=>Z6
def aP.part (Rs:List aP)(i:Nat)(r:aP):Bool:=match r.kd with
 |.n=>chkL (r.G Rs) r.s (z0t r.st)
 |.e _ _=>Z6
 |.g _ _=>Z6
def aP.ok (Rs:List aP)(fr:List Str)(i:Nat)(r:aP):Bool:=
 (decide ((z0b r.st).kind=.function)&& !(z0b r.st).isCoroutine&& !(z0b r.st).isGenerator&&decide r.N.Nodup&&decide (r.N.take r.ps.length=r.ps))&&
 (r.ps.all (λx=>(z0b r.st).names.lookup x==Z9 .local||(z0b r.st).names.lookup x==Z9 .cell)&&(z0b r.st).names.all (λy=>!(y.2==.free))&&r.free.all (λx=>fr.contains x)&&r.fns.all (λj=>decide (j<i)&&nE Rs j)&&r.part Rs i)
def sR (Rs:List aP)(fr:List Str):Nat->List aP->Bool
 |_,[]=>Z7
 |i,r::l=>r.ok Rs fr i&&sR Rs fr (i+1) l
def aP.Et (Rs:List aP)(r:aP):Prop:=match r.kd with
 |.n=>r.F=aI (r.kc.map cD) (r.fns.map (fnAt Rs)) r.N.length r.s
 |.e _ _=>True
 |.g _ _=>True
def pD (Rs:List aP):List aP->Prop
 | []=>True
 |r::l=>r.Et Rs/\pD Rs l
theorem Eu:∀{l:List aP} {k i:Nat} {r:aP},sR a fr k l=Z7->l[i]?=Z9 r->r.ok a fr (k+i)=Z7
 | [],_,i,_,_,e=>by simp at e
 |r::l,k,0,_,h,e=>by cases e;exact(aD h).1
 |r::l,k,i+1,_,h,e=>by
  have:=Eu (aD h).2 e
  rwa [show k+(i+1)=k+1+i by omega]
theorem JY:∀{l:List aP} {i:Nat} {r:aP},pD a l->l[i]?=Z9 r->r.Et a
 | [],i,_,_,e=>by simp at e
 |r::l,0,_,h,e=>by cases e;exact h.1
 |r::l,i+1,_,h,e=>JY h.2 e
section
variable {P:cw}{w:World}{K:Z5}{mg:Str->Option Value}{base:Heap}{Rs:List aP}{fr:List Str}
theorem Au {r:aP}(h:r.ok Rs fr i=Z7):FnScope (r.G Rs).N r.ps (z0b r.st)/\(∀x,r.free.contains x=Z7->fr.contains x=Z7)/\(∀j∈r.fns,j<i/\nE Rs j=Z7)/\r.part Rs i=true:=by
 obtain⟨h1,h2⟩:=aD h;obtain⟨a1,a2,a3,a4,a5⟩:=fG h1;obtain⟨b1,b2,b3,b4,b5⟩:=fG h2;refine⟨⟨xn a1,cG a2,cG a3,xn a4,xn a5,λx hx=>?_,λy hy z=>?_⟩,λx hx=>?_,λj hj=>⟨xn (aD (bg.mp b4 j hj)).1,(aD (bg.mp b4 j hj)).2⟩,b5⟩
 .rcases ij.mp (bg.mp b1 x hx)with q|q
  .exact .inl (xr q)
  .exact .inr (xr q)
 .have :=cG (bg.mp b2 y hy);rw[z]at this;cases this
 .exact bg.mp b3 x (fq.mp hx)
def nH (P:cw)(w:World)(K:Z5)(mg:Str->Option Value)(base:Heap)(i:Nat)(r:aP):Prop:=match r.kd with
 |.e _ _=>True
 |_=>Cal P w K mg base (i+1) r.nm r.ps (spD K r.ps.length r.F)
theorem Ew (h:nH P w K mg base j c)(e:Rs[j]?=Z9 c)(n:nE Rs j=Z7):Cal P w K mg base (j+1) c.nm c.ps (spD K c.ps.length c.F):=by
 unfold nE at n;rw[e]at n;have n:(!c.kd.JX)=true:=n;unfold nH at h;cases hk:c.kd with
 |n=>rw[hk]at h;exact h
 |g d a=>rw[hk]at h;exact h
 |e x b=>rw[hk]at n;cases n
def Ex (K:Z5)(mg:Str->Option Value)(y:Str×List Str):Prop:=∃a,mg y.1=Z9 (.ref a)/\∀H B,B Z8->Rep K H B (.ref a) (cD y)
theorem SR (hr:Rs[i]?=Z9 r)(h:r.ok Rs fr i=Z7)(T:∀x∈fr,mg x=Z8)(o:∀y∈r.kc,Ex K mg y)(p:∀j c,j<i->Rs[j]?=Z9 c->nH P w K mg base j c):Dok (r.G Rs) (r.kc.map cD) (r.fns.map (fnAt Rs)) P w K mg base i where
 free:=λx hx=>T x (fq.mp ((Au h).2.1 x hx))
 fns:=λj f n e=>by
  have e:(r.fns.map (sig Rs))[j]?=Z9 (f,n):=e;rw[ba]at e;obtain⟨b,l,e⟩:=bu.mp e;obtain⟨d,k⟩:=(Au h).2.2.1 b (bn l);have hl:=(br.mp hr).1;have g:=aq (lm d hl);unfold sig at e;rw[g]at e;cases e;refine⟨fnAt Rs b,b+1,Rs[b].ps,by rw[ba,l];rfl,d,?_⟩;have:fnAt Rs b=Rs[b].F:=by unfold fnAt;rw[g]
  rw[this];exact Ew (p b _ d g) g k
 cst:=λj x e=>by have e:(r.kc.map (·.1))[j]?=Z9 x:=e;rw[ba]at e;obtain⟨y,m,rfl⟩:=bu.mp e;obtain⟨a,q,s⟩:=o y (bn m);exact⟨cD y,a,by rw[ba,m];rfl,q,s⟩
theorem SS (hok:sR Rs fr 0 Rs=Z7)(l:pD Rs Rs)(T:∀x∈fr,mg x=Z8)(n:Nat)(o:∀r∈Rs,∀y∈r.kc,Ex K mg y)(O:∀i r,i<n->Rs[i]?=Z9 r->Own K mg r.nm r.st r.ps):∀i r,i<n->Rs[i]?=Z9 r->nH P w K mg base i r:=by
 intro i
 induction i using Nat.strongRecOn with
 |ind i p=>
  intro r h hr
  have ho:r.ok Rs fr i=true:=by
   have:=Eu hok hr
   rwa [vn]at this
  obtain⟨q,s,_,a⟩:=Au ho;have hf:=JY l hr;obtain⟨f,fd,t,m,kp,b⟩:=O i r h hr;unfold aP.Et at hf;unfold aP.part at a;unfold nH;cases hk:r.kd with
  |n=>rw[hk]at hf a;rw[hf];exact⟨f,fd,d_fn t q rfl rfl rfl (SR hr ho T (o r (bn hr)) (λj c k u=>p j k c (lm k h) u)) a,m,kp,b⟩
  |e c v=>rw[hk]at a;cases a
  |g d z=>rw[hk]at a;cases a
end
def Kf (K:Z5)(r:aP)(f:Addr)(fd:ja):Prop:=W.nsIn K dm r.nm=Z9 (Z9 (.ref f))/\∃(oc:Value) (od an:Option Addr) (sl:Array (Option Value)) (kV dc pm cd ct:Value),fd=W.fnOf r.nm r.nm (z1f r.st) (z0t r.st) (z0b r.st) .none kV dc pm an cd ct/\K.lookup f=Z9 ⟨oc,od,.func fd,sl⟩/\W.codeIn K cd r.nm=Z7/\Z4 K (.ref f)=Z7
def Ey (r:aP):Prop:=∀(kV doc pm:Value) (an:Option Addr) (cdv ct:Value) (us:List Value),us.length=r.ps.length->wp (W.fnOf r.nm r.nm (z1f r.st) (z0t r.st) (z0b r.st) .none kV doc pm an cdv ct) ⟨us,[]⟩=pure (r.ps.zip us)
theorem jX (h:b.length=n+1):∃a l,b=a::l/\l.length=n:=by
 cases b with
 |nil=>cases h
 |cons a l=>exact⟨a,l,rfl,Nat.succ.inj h⟩
theorem vE {P:List Value->Prop}(h:∀a,P [a])(b:List Value)(z:b.length=1):P b:=by obtain⟨a,l,rfl,y⟩:=jX z;cases List.eq_nil_of_length_eq_zero y;exact h a
theorem eY {P:List Value->Prop}(h:∀a b,P [a,b])(c:List Value)(z:c.length=2):P c:=by obtain⟨a,l,rfl,y⟩:=jX z;exact vE (P:=λl=>P (a::l)) (h a) l y
theorem eF {P:List Value->Prop}(h:∀a b c,P [a,b,c])(d:List Value)(z:d.length=3):P d:=by obtain⟨a,l,rfl,y⟩:=jX z;exact eY (P:=λl=>P (a::l)) (h a) l y
theorem by4 {P:List Value->Prop}(h:∀a b c d,P [a,b,c,d])(e:List Value)(z:e.length=4):P e:=by obtain⟨a,l,rfl,y⟩:=jX z;exact eF (P:=λl=>P (a::l)) (h a) l y
theorem JZ {P:List Value->Prop}(h:∀a b c d e,P [a,b,c,d,e])(f:List Value)(z:f.length=5):P f:=by obtain⟨a,l,rfl,y⟩:=jX z;exact by4 (P:=λl=>P (a::l)) (h a) l y
theorem SU {P:List Value->Prop}(h:∀a b c d e f,P [a,b,c,d,e,f])(g:List Value)(z:g.length=6):P g:=by obtain⟨a,l,rfl,y⟩:=jX z;exact JZ (P:=λl=>P (a::l)) (h a) l y
def kOks (K:Z5):List aP->Prop
 | []=>True
 |r::l=>((∃f fd,Kf K r f fd)/\Ey r)/\kOks K l
theorem J1 {K:Z5}:∀{l:List aP} {i:Nat} {r:aP},kOks K l->l[i]?=Z9 r->(∃f fd,Kf K r f fd)/\Ey r
 | [],i,_,_,e=>by simp at e
 |r::l,0,_,h,e=>by cases e;exact h.1
 |r::l,i+1,_,h,e=>J1 h.2 e
def strOf:Value->Option Str
 |.str x _=>if Z2 x then Z9 x else Z8
 |_=>Z8
def J2 (K:Z5)(y:Str×List Str):Bool:=match W.nsIn K dm y.1 with
 |some (Z9 (.ref a))=>(match K.lookup a with
  |some ⟨.type "tuple",Z8,.seq dE _,_⟩=>decide (dE.toList.map strOf=y.2.map Z9)&&decide (y.2.length<=1000)
  |_=>Z6)
 |_=>Z6
def qE (K:Z5)(r:aP):Option (ja×Bool):=match W.nsIn K dm r.nm with
 |some (Z9 (.ref f))=>(match K.lookup f with
  |some ⟨_,_,.func fd,_⟩=>Z9 (fd,W.codeIn K fd.code r.nm&&Z4 K (.ref f))
  |_=>Z8)
 |_=>Z8
def J3 (r:aP)(x:ja×Bool):ja×Bool:=(W.fnOf r.nm r.nm (z1f r.st) (z0t r.st) (z0b r.st) .none x.1.kwdefaults x.1.doc x.1.pyModule x.1.annotations x.1.code x.1.closureTuple,Z7)
def KEq (K:g9->Z5)(Rs:List aP)(fr:List Str):Prop:=∀P,(Rs.map λr=>(qE (K P) r).isSome,Rs.map λr=>qE (K P) r,fr.map λn=>W.nsIn (K P) dm n,Rs.map λr=>r.kc.map λy=>J2 (K P) y)=(Rs.map λ_=>Z7,Rs.map λr=>(qE (K P) r).map (J3 r),fr.map λ_=>Z9 Z8,Rs.map λr=>r.kc.map λ_=>Z7)
theorem KEq_r:KEq=KEq:=rfl
theorem SV {K:Z5}(h:(qE K r).isSome=Z7)(e:qE K r=(qE K r).map (J3 r)):∃f fd,Kf K r f fd:=by
 cases z:qE K r with
 |none=>rw[z]at h;cases h
 |some x=>
  rw[z]at e;have e:=xl e;unfold qE at z;split at z
  .rename_i f hf;split at z
   .rename_i oc od fd sl c;have z:=xl z;have d:=congrArg Prod.fst z;have a:=congrArg Prod.snd z;rw[congrArg Prod.snd e]at a;have b:=az.mp a;subst d;exact⟨f,x.1,hf,oc,od,x.1.annotations,sl,x.1.kwdefaults,x.1.doc,x.1.pyModule,x.1.code,x.1.closureTuple,congrArg Prod.fst e,c,b.1,b.2⟩
   .cases z
  .cases z
theorem Ez {K:g9->Z5}(h:KEq K d fr)(P:g9):(∀r∈d,∃f fd,Kf (K P) r f fd)/\(∀n∈fr,W.nsIn (K P) dm n=Z9 Z8)/\∀r∈d,∀y∈r.kc,J2 (K P) y=true:=by have a:=xm (h P);have b:=xm a.2;have c:=xm b.2;exact⟨λr hr=>SV (i8.mp a.1 r hr) (i8.mp b.1 r hr),λn hn=>i8.mp c.1 n hn,λr hr=>i8.mp (i8.mp c.2 r hr)⟩
def sS:List aP->Prop
 | []=>True
 |r::l=>Ey r/\sS l
theorem J4 {K:Z5}:∀{l:List aP},(∀r∈l,∃f fd,Kf K r f fd)->sS l->kOks K l
 | [],_,_=>trivial
 |r::_,h,b=>⟨⟨h r (.head _),b.1⟩,J4 (λr hr=>h r (.tail _ hr)) b.2⟩
end Mi
name_quick tkeq for Mi.KEq by Mi.KEq_r
namespace Mk
open Mi
section
open PySem
abbrev P:=List (Str×Int)
def pr (p:Str×Int):D:=.tuple [.str p.1,.int p.2]
def pk (l:P):D:=.tuple (l.map pr)
def ep (p:Str×Int):D×D:=(.str p.1,.int p.2)
def en (l:P):bA:=l.map ep
def fnd:P->Str->Option Int
 | [],_=>Z8
 |p::l,n=>if p.1=n then Z9 p.2 else fnd l n
def look (l:P)(n:Str):Int:=(fnd l n).getD 0
def ks (l:P):List Str:=l.map (·.1)
def put:P->Str->Int->P
 | [],n,v=>[(n,v)]
 |p::l,n,v=>if p.1=n then(p.1,v)::l else p::put l n v
def sl (a b:Str):Prop:=a.cps.toList<b.cps.toList
theorem EA (a:Str):¬sl a a:=List.lt_irrefl _
theorem J5 (h:sl a b)(k:sl b c):sl a c:=List.lt_trans h k
theorem SW {b:Str}(h:a.cps.toList=b.cps.toList):a=b:=by cases a;cases b;simp at h;subst h;rfl
theorem J6 (h:a≠b):sl a b\/sl b a:=by
 by_cases c:sl a b
 .exact .inl c
 .by_cases d:sl b a
  .exact .inr d
  .exact(h (SW (List.le_antisymm (List.not_lt.mp d) (List.not_lt.mp c)))).elim
theorem SX (h:sl a b):a≠b:=λe=>EA b (e▸h)
theorem z1u:∀{l:P},n∉ks l->fnd l n=Z8
 | [],_=>rfl
 |p::l,h=>by simp only[ks,aw,ao,not_or]at h;rw[fnd,xk (λe=>h.1 e.symm)];exact z1u h.2
theorem pE:∀{l:P},fnd l n=Z9 v->(n,v)∈l
 | [],h=>by cases h
 |p::l,h=>by
  rw[fnd]at h;split at h
  .rename_i e;cases h;subst e;simp_all
  .exact b0 _ (pE h)
theorem SY (h:fnd l n=Z9 v):n∈ks l:=au.mpr ⟨_,pE h,rfl⟩
theorem sT:∀{l:P} {p:Str×Int},(ks l).Nodup->p∈l->fnd l p.1=Z9 p.2
 |q::l,p,nd,h=>by
  rw[ks,aw,ci]at nd;rw[fnd];rcases(ao.mp h)with rfl|h
  .rw[xh rfl]
  .rw[xk λe:q.1=p.1=>nd.1 (au.mpr ⟨p,h,e.symm⟩)];exact sT nd.2 h
theorem J7 (h:n∈ks l):∃v,fnd l n=Z9 v:=by
 cases e:fnd l n with
 |some v=>exact⟨v,rfl⟩
 |none=>
  exfalso
  induction l with
  |nil=>cases h
  |cons p l a=>
   rw[fnd]at e;split at e
   .cases e
   .rename_i hn;rcases ao.mp h with h|h
    .exact hn h.symm
    .exact a h e
theorem J8 (n:Str)(v:Int)(m:Str):∀l,fnd (put l n v) m=if n=m then Z9 v else fnd l m
 | []=>by simp[put,fnd]
 |p::l=>by
  rw[put];split
  .rename_i e;subst e;rw[fnd,fnd];split<;>rfl
  .rename_i e;rw[fnd,fnd,J8 n v m l];split
   .rename_i e2;rw[xk λz=>e (e2.trans z.symm)]
   .rfl
theorem S0 (n:Str)(v:Int)(m:Str)(l:P):look (put l n v) m=if n=m then v else look l m:=by rw[look,J8];split<;>rfl
theorem EB (n:Str)(v:Int):∀l,∀m,m∈ks (put l n v)↔m=n\/m∈ks l
 | [],m=>by simp[put,ks]
 |p::l,m=>by
  rw[put];split
  .rename_i e;subst e;simp[ks]
  .have :=EB n v l m;simp only[ks,aw,ao]at this ⊢;rw[this];constructor
   .rintro(h|h|h)<;>simp[h]
   .rintro(h|h|h)<;>simp[h]
theorem EC (n:Str)(v:Int):∀l,(ks l).Nodup->(ks (put l n v)).Nodup
 | [],_=>by simp[put,ks]
 |p::l,h=>by
  rw[put];split
  .exact h
  .rename_i e;rw[ks,aw,ci]at h ⊢;refine⟨λz=>?_,EC n v l h.2⟩;rcases(EB n v l p.1).mp z with z|z
   .exact e z
   .exact h.1 z
theorem J9:∀{a b:List Str},a.Nodup->(∀x∈a,x∈b)->a.length<=b.length
 | [],b,_,_=>be _
 |x::a,b,nd,h=>by rw[ci]at nd;have hx:=h x bj;have:=J9 nd.2 λy c=>(List.mem_erase_of_ne λe:y=x=>nd.1 (e▸c)).mpr (h y (b0 _ c));rw[List.length_erase_of_mem hx]at this;have:0<b.length:=List.length_pos_of_mem hx;simp;omega
theorem vF (a b:Str):eqK (.str a) (.str b)=decide (a=b):=by simp only[eqK]
theorem S3 (a:Str):jL (.str a)=true:=by simp only[jL]
theorem J' (n:Str):∀l,cU (en l) (.str n)=(fnd l n).map .int
 | []=>rfl
 |p::l=>by
  have a:=J' n l;unfold cU at a ⊢;rw[fnd];show Option.map _ (match eqK (.str p.1) (.str n)with|true=>_|false=>_)=_;rw[vF];by_cases h:p.1=n
  .rw[xh h];simp[h,ep]
  .rw[xk h];simp only[h,decide_false];exact a
theorem ED (n:Str):∀l,((en l).any λe=>eqK e.1 (.str n))=Z7↔n∈ks l
 | []=>by simp[en,ks]
 |p::l=>by show(eqK (.str p.1) (.str n)||_)=Z7↔_;rw[vF,i4,ks];have:=ED n l;rw[en,ks]at this;rw[this];simp[eq_comm]
theorem Ka:∀{l:P},(ks l).Nodup->n∈ks l->(en l).map (λe=>if eqK e.1 (.str n)then(e.1,.int v)else e)=en (put l n v)
 |p::l,nd,h=>by
  rw[ks,aw,ci]at nd;rw[put];show(if eqK (.str p.1) (.str n)=Z7 then _ else _)::_=_;rw[vF];by_cases e:p.1=n
  .have hn:∀q∈l,¬q.1=n:=λq a z=>nd.1 (au.mpr ⟨q,a,z.trans e.symm⟩);rw[xh e,xh (by simpa using e)]
   congr 1
   rw[dg];apply i9;intro q a;show(if eqK (.str q.1) (.str n)=Z7 then _ else _)=ep q;rw[vF,xk (by simpa using hn q a)]
  .rw[xk e,xk (by simpa using e)]
   congr 1
   refine Ka nd.2 ?_;rcases ao.mp h with h|h
   .exact(e h.symm).elim
   .exact h
theorem EE:∀{l:P},n∉ks l->put l n v=l++[(n,v)]
 | [],_=>rfl
 |p::l,h=>by simp only[ks,aw,ao,not_or]at h;rw[put,xk λe=>h.1 e.symm,EE h.2];rfl
theorem Kb (nd:(ks l).Nodup):dput (en l) (.str n) (.int v)=en (put l n v):=by
 unfold dput;by_cases h:n∈ks l
 .rw[xh ((ED n l).mpr h)];exact Ka nd h
 .rw[xk λz=>h ((ED n l).mp z),EE h];simp[en,ep]
theorem Kc:∀l a,(ks (a++l)).Nodup->jM (en a) (l.map pr)=Z9 (en (a++l))
 | [],a,_=>by simp[jM]
 |p::l,a,nd=>by
  have b:=nd;rw[ks,bv]at nd;have c:=λz=>by rw[l0]at nd;exact nd.2.2 _ z _ bj rfl
  show(if jL (.str p.1)then jM (dput (en a) (.str p.1) (.int p.2)) (l.map pr)else Z8)=_;rw[xh (S3 _),Kb (by rw[l0]at nd;exact nd.1),EE c,Kc l (a++[(p.1,p.2)]) (by rw[i7];exact b),i7];rfl
theorem S4 (nd:(ks l).Nodup):jM [] (l.map pr)=Z9 (en l):=by have:=Kc l [] (by simpa using nd);simpa[en]using this
theorem S5 (l:P):(en l).map ent=l.map pr:=by rw[en,dg];rfl
theorem Ke (l:P):(en l).length=l.length:=by rw[en,ae]
theorem Kg (l:P):bU (en l)=true:=by unfold bU;rw[bg];intro e a;obtain⟨p,_,rfl⟩:=au.mp a;rfl
theorem Kh (p:Str×Int):aM (pr p)=true:=rfl
theorem EF (l:P):imms (l.map pr)=true:=rO.mpr λx a=>by obtain⟨p,_,rfl⟩:=au.mp a;rfl
theorem cA (l:P):aM (pk l)=true:=EF l
theorem S6 (l:P):mZ (l.map pr)=true:=by
 cases l with
 |nil=>rfl
 |cons p l=>
  unfold mZ;have:((p::l).map pr).all (zao ([Z1 p.1,ZZ p.2].map uN))=true:=by rw[bg];intro x hx;obtain⟨q,_,rfl⟩:=au.mp hx;rfl
  rw[i4];right;exact az.mpr ⟨rfl,this⟩
def lp (p q:Str×Int):Bool:=bZ (pr p) (pr q)
def gY (x:Str×Int):P->P
 | []=>[x]
 |y::ys=>if lp y x then y::gY x ys else x::y::ys
def pF:P->P
 | []=>[]
 |x::xs=>gY x (pF xs)
theorem Ki (x:Str×Int):∀l,gL (pr x) (l.map pr)=(gY x l).map pr
 | []=>rfl
 |y::l=>by
  rw[aw,gL,gY,lp];split
  .rw[Ki x l];rfl
  .rfl
theorem Kj:∀l,z21 (l.map pr)=(pF l).map pr
 | []=>rfl
 |x::l=>by rw[aw,z21,Kj l,Ki,pF]
theorem EG (x:Str×Int):∀l,(gY x l).Perm (x::l)
 | []=>.refl _
 |y::l=>by
  rw[gY];split
  .exact((EG x l).cons y).trans (.swap x y l)
  .exact .refl _
theorem EH:∀l,(pF l).Perm l
 | []=>.refl _
 |x::l=>(EG x (pF l)).trans ((EH l).cons x)
theorem Kk (h:p.1≠q.1):lp p q=Z7↔sl p.1 q.1:=by
 show bZ (.tuple [.str p.1,.int p.2]) (.tuple [.str q.1,.int q.2])=Z7↔_;simp only[bZ,aF];have:cc (.str p.1) (.str q.1)=false:=by simp[cc,PyData.eqv,h]
 rw[this];simp[sl]
def Sd (l:P):Prop:=l.Pairwise λp q=>sl p.1 q.1
theorem Kl:∀{l:P},Sd l->x.1∉ks l->Sd (gY x l)
 | [],_,_=>jf _ _
 |y::l,h,hx=>by
  have h':=dj.1 h;simp only[ks,aw,ao,not_or]at hx;rw[gY];split
  .rename_i hl;have hy:=(Kk (λe=>hx.1 e.symm)).mp hl;refine dj.mpr ⟨λz hz=>?_,Kl h'.2 hx.2⟩;rcases ao.mp ((EG x l).mem_iff.mp hz)with rfl|hz
   .exact hy
   .exact h'.1 z hz
  .rename_i hl
   have hy:sl x.1 y.1:=by
    rcases J6 hx.1 with z|z
    .exact z
    .exact(hl ((Kk (λe=>hx.1 e.symm)).mpr z)).elim
   refine dj.mpr ⟨λz hz=>?_,h⟩;rcases(ao.mp hz)with rfl|hz
   .exact hy
   .exact J5 hy (h'.1 z hz)
theorem EI:∀{l:P},(ks l).Nodup->Sd (pF l)
 | [],_=>List.Pairwise.nil
 |x::l,nd=>by rw[ks,aw,ci]at nd;exact Kl (EI nd.2) λz=>nd.1 (((EH l).map (·.1)).mem_iff.mp z)
theorem Km (h:Sd l):(ks l).Nodup:=by unfold ks List.Nodup;rw[lv];exact List.Pairwise.imp (λz=>SX z) h
theorem S7 (h:a.Perm b)(nd:(ks b).Nodup)(n:Str):fnd a n=fnd b n:=by
 cases e:fnd b n with
 |some v=>exact sT ((List.Perm.nodup_iff (h.map (λp:Str×Int=>p.1))).mpr nd) (h.mem_iff.mpr (pE e))
 |none=>
  cases c:fnd a n with
  |none=>rfl
  |some v=>rw[sT nd (h.mem_iff.mp (pE c))]at e;cases e
structure PK (l:P):Prop where
 sd:Sd l
 pos:∀p∈l,0<p.2
theorem PK.nd (h:PK l):(ks l).Nodup:=Km h.sd
theorem PK.pG (h:PK l)(n:Str):0<=look l n:=by
 unfold look;cases e:fnd l n with
 |none=>exact sh _
 |some v=>exact Int.le_of_lt (h.pos _ (pE e))
theorem PK.key (h:PK l):n∈ks l↔0<look l n:=by
 constructor
 .intro z;obtain⟨v,e⟩:=J7 z;unfold look;rw[e];exact h.pos _ (pE e)
 .intro z;unfold look at z;cases e:fnd l n with
  |none=>rw[e]at z;simp_all
  |some v=>exact SY e
theorem PK.bW (h:PK l)(a:p∈l):look l p.1=p.2:=by unfold look;rw[sT h.nd a];rfl
theorem PK.ext:∀{a b:P},PK a->PK b->(∀n,look a n=look b n)->a=b
 | [],[],_,_,_=>rfl
 | [],q::b,_,hb,h=>by have:=h q.1;rw[hb.bW bj]at this;have z:=hb.pos _ bj;rw[<-this]at z;exact absurd z (Int.lt_irrefl 0)
 |p::a,[],ha,_,h=>by have:=h p.1;rw[ha.bW bj]at this;have z:=ha.pos _ bj;rw[this]at z;exact absurd z (Int.lt_irrefl 0)
 |p::a,q::b,ha,hb,h=>by
  have no:∀{x y:Str×Int} {l m:P},PK (x::l)->PK (y::m)->(∀n,look (x::l) n=look (y::m) n)->¬sl x.1 y.1:=λ{x y l m} hx f h z=>by
   have e:=h x.1;rw[hx.bW bj]at e;have k:=f.key.mpr (e▸hx.pos _ bj);rcases ao.mp k with k|k
   .exact EA _ (k▸z)
   .obtain⟨w,i,c⟩:=au.mp k;have:=(dj.mp f.sd).1 w i;rw[c]at this;exact EA _ (J5 z this)
  have g:p.1=q.1:=by
   by_cases e:p.1=q.1
   .exact e
   .rcases J6 e with z|z
    .exact(no ha hb h z).elim
    .exact(no hb ha (λn=>(h n).symm) z).elim
  have c:p.2=q.2:=by have:=h p.1;rw[ha.bW bj,g,hb.bW bj]at this;exact this
  have d:=Prod.ext g c;subst d
  congr 1
  refine PK.ext ⟨(dj.mp ha.sd).2,λx hx=>ha.pos x (b0 _ hx)⟩ ⟨(dj.mp hb.sd).2,λx hx=>hb.pos x (b0 _ hx)⟩ λn=>?_;have hn:=h n;unfold look at hn ⊢;rw[fnd,fnd]at hn;by_cases e:p.1=n
  .have na:n∉ks a:=by have :=ha.nd;rw[ks,aw,ci]at this;exact e▸this.1
   rw[z1u na,z1u (by have:=hb.nd;rw[ks,aw,ci]at this;exact e▸this.1)]
  .rw[xk e,xk e]at hn;exact hn
end
section
open PySem
section
variable {Κ:List D}{Φ:List Fn}{ρ:Rho}{a b c t:C}{p q:S}{i:Nat}{f:D->Rho->Res Out}{x:D}{xs:List D}
theorem Kn:aW Κ Φ (.seq p q) ρ=oH (aW Κ Φ p ρ) (aW Κ Φ q):=rfl
theorem Aw:aW Κ Φ (.asg (.nm i) t) ρ=(aE Κ Φ t ρ>>=λx=>.ok (.nx (ρ.set i (Z9 (z1r x))))):=rfl
theorem EJ:aW Κ Φ (.aZ c p q) ρ=(dF Κ Φ c ρ>>=λk=>if k then aW Κ Φ p ρ else aW Κ Φ q ρ):=rfl
theorem S8:aW Κ Φ (.ret (.var i)) ρ=(match ρ[i]? with|some (Z9 (g,d))=>.ok (.rt (if aM d then .fr else iT g) d)|_=>.no):=rfl
theorem S9:aW Κ Φ (.dX i a b) ρ=(aE Κ Φ b ρ>>=λy=>aE Κ Φ a ρ>>=λx=>match ρ[i]? with
 |some (Z9 (.fr,.dict es))=>if jL x.2&&okIn y&&decide (es.length<aQ)then .ok (.nx ((ρ.set i (Z9 (.fr,.dict (dput es x.2 y.2)))).map gC))else .no
 |some (Z9 (.fr,.list xs))=>(match x.2 with
  |.int j=>if okIn y then(match iB xs.length j with|some n=>.ok (.nx ((ρ.set i (Z9 (.fr,.list (xs.set n y.2)))).map gC))|none=>.no)else .no
  |_=>.no)
 |_=>.no):=rfl
theorem S':aW Κ Φ (.mut m i a) ρ=(dG Κ Φ a ρ>>=λc=>match ρ[i]? with
 |some (Z9 (.fr,.list xs))=>lU m xs c>>=λb=>.ok (.nx ((ρ.set i (Z9 (.fr,.list b))).map gC))
 |_=>.no):=rfl
theorem Ta:aW Κ Φ (.aV d a p) e=(evF Κ Φ a e>>=λw=>dB (λx b=>eD d (gJ x w.1,x) b>>=λc=>aW Κ Φ p c) w.2.1 w.2.2):=rfl
theorem Tb:dB f (x::xs) ρ=(match f x ρ with
 |.ok (.nx cF)=>dB f xs cF
 |.ok (.rt g d)=>.ok (.rt g d)
 |.no=>.no):=rfl
theorem Tc:dG Κ Φ .nil ρ=.ok []:=rfl
theorem Ax:dG Κ Φ (.cons a b) ρ=(aE Κ Φ a ρ>>=λx=>dG Κ Φ b ρ>>=λxs=>.ok (x::xs)):=rfl
theorem EK:rS Κ Φ (.tv a) ρ=(aE Κ Φ a ρ>>=λx=>rR x.2):=rfl
theorem yI:CK Κ Φ (.tv a) ρ=(aE Κ Φ a ρ>>=λx=>z58 x.2>>=λp=>.ok (x.1,p)):=rfl
theorem EL:dF Κ Φ (.tv a) ρ=(aE Κ Φ a ρ>>=λx=>iS x.2):=rfl
theorem Td:dF Κ Φ (.and a b) d=(dF Κ Φ a d>>=λc=>if c then dF Κ Φ b d else .ok Z6):=rfl
theorem Te:dF Κ Φ (.not a) ρ=(dF Κ Φ a ρ>>=λc=>.ok (!c)):=rfl
theorem EM:evW Κ Φ (.tv a) ρ=(aE Κ Φ a ρ>>=λx=>z5a x.2>>=λxs=>.ok (x.1,xs)):=rfl
theorem Tf:evW Κ Φ (.kM a) ρ=(dG Κ Φ a ρ>>=λb=>fX (b.map (·.2))>>=λxs=>.ok (.fr,xs)):=rfl
theorem Kq:evF Κ Φ (.tv (.var i)) ρ=(if jP ρ i then zZ i ρ else if jQ Κ Φ (.tv (.var i)) ρ then aE Κ Φ (.var i) ρ>>=λx=>lV x ρ else uO Κ Φ (.tv (.var i)) ρ):=rfl
end
theorem eG (h:aW Κ Φ a ρ=.ok (.nx c))(k:aW Κ Φ b c=r):aW Κ Φ (.seq a b) ρ=r:=by rw[Kn,h];exact k
theorem z07 (h:aW Κ Φ a ρ=.ok (.rt g d)):aW Κ Φ (.seq a b) ρ=.ok (.rt g d):=by rw[Kn,h];rfl
theorem dY (h:aW Κ Φ s (a.map (λd=>Z9 (.od,d))++bc (n-a.length) Z8)=.ok (.rt g d)):aI Κ Φ n s a=.ok (g,d):=by unfold aI;rw[h]
theorem Kr {g i:Type}{m:i->D}(I:g->Rho->Prop)(step:g->i->g):∀(d:List i) a b,(∀a x b,x∈d->I a b->∃c,f (m x) b=.ok (.nx c)/\I (step a x) c)->I a b->∃c,dB f (d.map m) b=.ok (.nx c)/\I (d.foldl step a) c
 | [],a,b,_,h=>⟨b,rfl,h⟩
 |x::d,a,b,hf,h=>by obtain⟨j,e,l⟩:=hf a x b bj h;obtain⟨k,n,o⟩:=Kr I step d (step a x) j (λa y b p=>hf a y b (b0 _ p)) l;exact⟨k,by rw[aw,Tb,e];exact n,o⟩
theorem EN {b:Type}{m:b->D}(g:b->Option D):∀(a:List b),(∀x∈a,f (m x)=.ok ((g x).map λd=>(.fr,d)))->hK f (a.map m)=.ok ((a.filterMap g).map λd=>(.fr,d))
 | [],_=>rfl
 |x::a,h=>by
  rw[aw,hK,h x bj,EN g a λy c=>h y (b0 _ c)];cases e:g x with
  |none=>rw[pq e];rfl
  |some d=>rw[pv e];rfl
theorem Ks (a:List D):oF (a.map λd=>(G.fr,d))=.fr:=by unfold oF;rw[xh];rw[nr];exact bg.mpr λ_ _=>rfl
theorem Ti (a:List D):cC (a.map λd=>(G.fr,d))=.fr:=by unfold cC;rw[xh];rw[bg];intro x b;obtain⟨d,_,rfl⟩:=au.mp b;rfl
theorem Ay (a:List D):(a.map λd=>(G.fr,d)).map (λx=>x.2)=a:=by rw[dg];exact wf _
theorem Tj (a b:Int):kN "max" [.int a,.int b]=.ok (.int (max a b)):=rfl
theorem Tn (l:P)(n:Str)(v:Int):mtD "get" (.dict (en l)) [.str n,.int v]=.ok (.int ((fnd l n).getD v)):=by have:mtD "get" (.dict (en l)) [.str n,.int v]=.ok ((cU (en l) (.str n)).getD (.int v)):=rfl;rw[this,J'];cases fnd l n<;>rfl
theorem EO (l:P)(n:Str):mtD "get" (.dict (en l)) [.str n,.int 0]=.ok (.int (look l n)):=Tn l n 0
theorem ER (l:Bool)(a:List D):aggD "tuple" l a=.ok (.tuple a):=rfl
theorem Kt (b:Bool)(nd:(ks l).Nodup):aggD "dict" b (l.map pr)=.ok (.dict (en l)):=by show Res.eR ((jM [] (l.map pr)).map PyData.dict)=_;rw[S4 nd];rfl
theorem ES {b:Type}(a:List b)(i:Int)(d:b)(h0:0<=i)(c:i<a.length):cT a i=Z9 (a.getD i.toNat d):=by
 unfold cT iB;rw[xh h0,xh c];show a[i.toNat]?=_;have:i.toNat<a.length:=by omega
 rw[av,aq this];rfl
theorem To {ns:List Int}{i:Int}(h0:0<=i)(a:i<ns.length):ixD (.list (ns.map .int)) (.int i)=.ok (.int (ns.getD i.toNat 0)):=by
 show Res.eR (cT (ns.map ZZ) i)=_;rw[ES _ i (.int 0) h0 (by rw[ae];exact a)]
 congr 1
 have:i.toNat<ns.length:=by omega
 rw[av,av,ba,aq this];rfl
theorem add_list (h:a.length+b.length<=1000):cE .Add (.list a) (.list b)=.ok (.list (a++b)):=by show(if _ then _ else _)=_;rw[xh (by unfold aQ;omega)]
theorem ET (h:-(2 ^ 64)<b/\b<2 ^ 64):cE .Mult (.int a) (.int b)=.ok (.int (a*b)):=by show(if _ then _ else _)=_;rw[xh (.inr h)]
theorem Tq (h:-(2 ^ 64)<a/\a<2 ^ 64):cE .Mult (.int a) (.int b)=.ok (.int (a*b)):=by show(if _ then _ else _)=_;rw[xh (.inl h)]
theorem kZ (h:0<b):cE .Mod (.int a) (.int b)=.ok (.int (a%b)):=by show(if _ then _ else _)=_;rw[xh h]
theorem sU (ns:List Str):imms (ns.map .str)=true:=rO.mpr λx a=>by obtain⟨p,_,rfl⟩:=au.mp a;rfl
theorem yJ (a b:Int):cc (.int a) (.int b)=decide (a=b):=by rfl
section
variable {Κ:List D}{Φ:List Fn}{ρ:Rho}
theorem qF:aE Κ Φ (.var i) ρ=(zY ρ[i]?):=rfl
theorem Tr:aE Κ Φ (.bG) a=(.ok (.fr,.none)):=rfl
theorem EU:aE Κ Φ (.bl b) a=(.ok (.fr,.bool b)):=rfl
theorem Ts:aE Κ Φ (.int i) a=(.ok (.fr,.int i)):=rfl
theorem Tu:aE Κ Φ (.str x) a=(.ok (.fr,.str x)):=rfl
theorem Ku:aE Κ Φ (.bin e a b) c=(aE Κ Φ a c>>=λx=>aE Κ Φ b c>>=λy=>cE e x.2 y.2>>=λd=>.ok (gN d (cC [x,y]),d)):=rfl
theorem Tv:aE Κ Φ (.cmp op a b) ρ=(aE Κ Φ a ρ>>=λx=>aE Κ Φ b ρ>>=λy=>cmpD op x.2 y.2>>=λb=>.ok (.fr,.bool b)):=rfl
theorem Tw:aE Κ Φ (.and a b) d=(aE Κ Φ a d>>=λx=>match x.2 with|.bool c=>if c then aE Κ Φ b d else .ok (.fr,.bool Z6)|_=>.no):=rfl
theorem EV:aE Κ Φ (.or a b) d=(aE Κ Φ a d>>=λx=>match x.2 with|.bool c=>if c then .ok (.fr,.bool Z7)else aE Κ Φ b d|_=>.no):=rfl
theorem Tz:aE Κ Φ (.not a) ρ=(aE Κ Φ a ρ>>=λx=>iS x.2>>=λc=>.ok (.fr,.bool (!c))):=rfl
theorem Az:aE Κ Φ (.jN c a b) d=(dF Κ Φ c d>>=λk=>if k then aE Κ Φ a d else aE Κ Φ b d):=rfl
theorem Kv:aE Κ Φ (.tup b) c=(dG Κ Φ b c>>=λa=>.ok (gJ (.tuple (a.map (·.2))) (cC a),.tuple (a.map (·.2)))):=rfl
theorem Kw:aE Κ Φ (.lst b) ρ=(dG Κ Φ b ρ>>=λa=>.ok (cC a,.list (a.map (·.2)))):=rfl
theorem TB:aE Κ Φ (.dR) ρ=(.ok (.fr,.dict [])):=rfl
theorem sV:aE Κ Φ (.ix a b) c=(aE Κ Φ a c>>=λx=>aE Κ Φ b c>>=λy=>ixD x.2 y.2>>=λd=>.ok (gJ d x.1,d)):=rfl
theorem EW:aE Κ Φ (.sl a c e) b=(aE Κ Φ a b>>=λx=>rS Κ Φ c b>>=λl=>rS Κ Φ e b>>=λh=>pT x.2 l h>>=λd=>.ok (gN d (cC [x]),d)):=rfl
theorem EX:aE Κ Φ (.call k c args) a=(dG Κ Φ args a>>=λb=>match Φ[k]? with|some m=>m (b.map (·.2))>>=λr=>.ok (gJ r.2 (iT r.1),r.2)|none=>.no):=rfl
theorem EY:aE Κ Φ (.bi f args) a=(dG Κ Φ args a>>=λb=>kN f (b.map (·.2))>>=λd=>.ok (gJ d .al,d)):=rfl
theorem Kx:aE Κ Φ (.gO f a) b=(CK Κ Φ a b>>=λw=>aggD f w.2.1 w.2.2>>=λd=>.ok (gJ d (if imms w.2.2 then .fr else agG w.1),d)):=rfl
theorem yK:aE Κ Φ (.mt m o args) a=(aE Κ Φ o a>>=λx=>dG Κ Φ args a>>=λb=>mtD m x.2 (b.map (·.2))>>=λd=>.ok (gJ d .al,d)):=rfl
theorem TC:aE Κ Φ (.sortI i) ρ=(match ρ[i]? with
 |some (Z9 (_,.dict es))=>if bU es&&mZ (es.map ent)&&decide (es.length<64)then .ok (.fr,.list (z21 (es.map ent)))else .no
 |_=>.no):=rfl
theorem EZ {a:C}:aE Κ Φ (.comp f g i h it a c) d=(evW Κ Φ it d>>=λw=>hK (λx=>eD h (gJ x w.1,x) (bc f Z8++g.map λj=>cL (d.getD j Z8))>>=λb=>dF Κ Φ a b>>=λk=>if k then aE Κ Φ c b>>=λy=>.ok (Z9 y)else .ok Z8) w.2>>=λe=>.ok (oF e,.list (e.map (·.2)))):=rfl
end
section
variable {Κ:List D}{Φ:List Fn}{ρ:Rho}{a b c t o args:C}{x y d:D}{ds:List D}{k k':Bool}{g:G}
def Ev (Κ:List D)(Φ:List Fn)(c:C)(ρ:Rho)(d:D):Prop:=∃g,aE Κ Φ c ρ=.ok (g,d)
def Vv (Κ:List D)(Φ:List Fn)(c:C)(ρ:Rho)(d:D):Prop:=aE Κ Φ c ρ=.ok (.fr,d)/\aM d=Z7
def Aa (Κ:List D)(Φ:List Fn)(c:C)(ρ:Rho)(ds:List D):Prop:=∃ys,dG Κ Φ c ρ=.ok ys/\ys.map (·.2)=ds
def Av (Κ:List D)(Φ:List Fn)(c:C)(ρ:Rho)(ds:List D):Prop:=dG Κ Φ c ρ=.ok (ds.map λd=>(.fr,d))/\imms ds=Z7
def Tt (Κ:List D)(Φ:List Fn)(c:C)(ρ:Rho)(k:Bool):Prop:=dF Κ Φ c ρ=.ok k
theorem Vv.e (h:Vv Κ Φ c ρ d):Ev Κ Φ c ρ d:=⟨_,h.1⟩
theorem Ev.of (h:aE Κ Φ c ρ=.ok (g,d)):Ev Κ Φ c ρ d:=⟨_,h⟩
theorem z02 (h:ρ[i]?=Z9 (Z9 (g,d))):Ev Κ Φ (.var i) ρ d:=⟨_,by rw[qF];rw[h];rfl⟩
theorem v_var (h:ρ[i]?=Z9 (Z9 (g,d)))(a:aM d=Z7):Vv Κ Φ (.var i) ρ d:=⟨by rw[qF];rw[h];show Res.ok (if aM d=Z7 then _ else _,d)=_;rw[xh a],a⟩
theorem z08:Vv Κ Φ (.int i) ρ (.int i):=⟨by rw[Ts],rfl⟩
theorem fM:Vv Κ Φ (.str i) ρ (.str i):=⟨by rw[Tu],rfl⟩
theorem eV:Vv Κ Φ (.bl i) ρ (.bool i):=⟨by rw[EU],rfl⟩
theorem TF:Vv Κ Φ .bG ρ .none:=⟨by rw[Tr],rfl⟩
theorem mL (a:aM d=Z7):gJ d g=.fr:=by unfold gJ;rw[xh a]
theorem TH (a:aM d=Z7):gN d g=.fr:=by cases d<;>first|exact mL a|cases a
theorem dC (ha:Ev Κ Φ a ρ x)(hb:Ev Κ Φ b ρ y)(h:cE op x y=.ok d)(c:aM d=Z7):Vv Κ Φ (.bin op a b) ρ d:=by obtain⟨e,ha⟩:=ha;obtain⟨f,hb⟩:=hb;refine⟨?_,c⟩;rw[Ku];rw[ha,Res.aC,hb,Res.aC];dsimp only;rw[h,Res.aC,TH c]
theorem yL (ha:Ev Κ Φ a ρ x)(hb:Ev Κ Φ b ρ y)(h:cE op x y=.ok (.list xs))(hi:imms xs=Z7):aE Κ Φ (.bin op a b) ρ=.ok (.fr,.list xs):=by obtain⟨g1,ha⟩:=ha;obtain⟨g2,hb⟩:=hb;rw[Ku];rw[ha,Res.aC,hb,Res.aC];dsimp only;rw[h];show Res.ok (if imms xs=Z7 then _ else _,_)=_;rw[xh hi]
theorem z0m (c:Ev Κ Φ a ρ x)(d:Ev Κ Φ b ρ y)(h:cmpD e x y=.ok k):Vv Κ Φ (.cmp e a b) ρ (.bool k):=by obtain⟨g1,c⟩:=c;obtain⟨g2,d⟩:=d;refine⟨?_,rfl⟩;rw[Tv];rw[c,Res.aC,d,Res.aC];dsimp only;rw[h];rfl
theorem v_and (ha:Ev Κ Φ a ρ (.bool k))(hb:k=Z7->Vv Κ Φ b ρ (.bool k')):Vv Κ Φ (.and a b) ρ (.bool (k&&k')):=by
 obtain⟨g1,ha⟩:=ha;refine⟨?_,rfl⟩;rw[Tw];rw[ha];cases k with
 |true=>exact(hb rfl).1
 |false=>rfl
theorem v_or (ha:Ev Κ Φ a ρ (.bool k))(hb:k=Z6->Vv Κ Φ b ρ (.bool k')):Vv Κ Φ (.or a b) ρ (.bool (k||k')):=by
 obtain⟨g1,ha⟩:=ha;refine⟨?_,rfl⟩;rw[EV];rw[ha];cases k with
 |false=>exact(hb rfl).1
 |true=>rfl
theorem v_not (ha:Ev Κ Φ a ρ x)(h:iS x=.ok k):Vv Κ Φ (.not a) ρ (.bool (!k)):=by obtain⟨g1,ha⟩:=ha;refine⟨?_,rfl⟩;rw[Tz];rw[ha,Res.aC];dsimp only;rw[h];rfl
theorem E1 (hc:Tt Κ Φ c ρ k)(h1:k=Z7->Vv Κ Φ a ρ x)(h2:k=Z6->Vv Κ Φ b ρ y):Vv Κ Φ (.jN c a b) ρ (if k then x else y):=by
 cases k with
 |true=>exact⟨by rw[Az];rw[hc];exact(h1 rfl).1,(h1 rfl).2⟩
 |false=>exact⟨by rw[Az];rw[hc];exact(h2 rfl).1,(h2 rfl).2⟩
theorem dU:Av Κ Φ .nil ρ []:=⟨rfl,rfl⟩
theorem dP (ha:Vv Κ Φ a ρ x)(hb:Av Κ Φ b ρ ds):Av Κ Φ (.cons a b) ρ (x::ds):=⟨by rw[Ax,ha.1,Res.aC,hb.1];rfl,by show(aM x&&imms ds)=Z7;rw[ha.2,hb.2];rfl⟩
theorem z09:Aa Κ Φ .nil ρ []:=⟨[],rfl,rfl⟩
theorem z00 (ha:Ev Κ Φ a ρ x)(hb:Aa Κ Φ b ρ ds):Aa Κ Φ (.cons a b) ρ (x::ds):=by obtain⟨g1,ha⟩:=ha;obtain⟨ys,hb,e⟩:=hb;exact⟨_,by rw[Ax,ha,hb];rfl,by rw[aw,e]⟩
theorem qG (h:Av Κ Φ args ρ ds):Vv Κ Φ (.tup args) ρ (.tuple ds):=by refine⟨?_,h.2⟩;rw[Kv];rw[h.1,Res.aC,Ay,mL (d:=.tuple ds) h.2]
theorem TJ (h:Aa Κ Φ args ρ ds):Ev Κ Φ (.tup args) ρ (.tuple ds):=by obtain⟨ys,h,e⟩:=h;exact⟨_,by rw[Kv];rw[h,Res.aC,e]⟩
theorem fZ (h:Av Κ Φ args ρ ds):aE Κ Φ (.lst args) ρ=.ok (.fr,.list ds):=by rw[Kw];rw[h.1,Res.aC,Ay,Ti]
theorem TK:aE Κ Φ .dR ρ=.ok (.fr,.dict []):=by rw[TB]
theorem v_ix (c:Ev Κ Φ a ρ x)(e:Ev Κ Φ b ρ y)(h:ixD x y=.ok d)(f:aM d=Z7):Vv Κ Φ (.ix a b) ρ d:=by obtain⟨g1,c⟩:=c;obtain⟨g2,e⟩:=e;refine⟨?_,f⟩;rw[sV];rw[c,Res.aC,e,Res.aC];dsimp only;rw[h,Res.aC,mL f]
def Oo (Κ:List D)(Φ:List Fn)(c:C)(ρ:Rho)(i:Option Int):Prop:=rS Κ Φ c ρ=.ok i
theorem xV:Oo Κ Φ .nil ρ none:=rfl
theorem AA (h:Ev Κ Φ a ρ (.int i)):Oo Κ Φ (.tv a) ρ (Z9 i):=by obtain⟨b,h⟩:=h;unfold Oo;rw[EK,h];rfl
theorem z0q (ha:Aa Κ Φ args ρ ds)(hf:Φ[n]?=Z9 m)(h:m ds=.ok (g,d))(hi:aM d=Z7):Vv Κ Φ (.call n f args) ρ d:=by obtain⟨ys,ha,e⟩:=ha;refine⟨?_,hi⟩;rw[EX];rw[ha,Res.aC,hf];dsimp only;rw[e,h,Res.aC,mL hi]
theorem fN (ha:Aa Κ Φ args ρ ds)(hf:Φ[n]?=Z9 m)(h:m ds=.ok (g,d)):Ev Κ Φ (.call n f args) ρ d:=by obtain⟨ys,ha,e⟩:=ha;exact⟨_,by rw[EX];rw[ha,Res.aC,hf];dsimp only;rw[e,h,Res.aC]⟩
theorem Ky (ha:Aa Κ Φ args ρ ds)(hf:Φ[n]?=Z9 m)(h:m ds=.ok (.fr,.list xs)):aE Κ Φ (.call n f args) ρ=.ok (.fr,.list xs):=by obtain⟨ys,ha,e⟩:=ha;rw[EX];rw[ha,Res.aC,hf];dsimp only;rw[e,h];rfl
theorem iJ (ha:Aa Κ Φ args ρ ds)(h:kN f ds=.ok d)(hi:aM d=Z7):Vv Κ Φ (.bi f args) ρ d:=by obtain⟨ys,ha,e⟩:=ha;refine⟨?_,hi⟩;rw[EY];rw[ha,Res.aC,e,h,Res.aC,mL hi]
theorem sW (ha:Ev Κ Φ a ρ x)(hw:z58 x=.ok w)(h:aggD f w.1 w.2=.ok d)(hi:aM d=Z7):Vv Κ Φ (.gO f (.tv a)) ρ d:=by obtain⟨g1,ha⟩:=ha;refine⟨?_,hi⟩;rw[Kx];rw[yI,ha,Res.aC];dsimp only;rw[hw];simp only[Res.aC];rw[h,Res.aC,mL hi]
theorem E2 (b:Ev Κ Φ a ρ x)(c:z58 x=.ok w)(h:aggD f w.1 w.2=.ok d)(e:imms w.2=Z7):aE Κ Φ (.gO f (.tv a)) ρ=.ok (.fr,d):=by obtain⟨g1,b⟩:=b;rw[Kx];rw[yI,b,Res.aC];dsimp only;rw[c];simp only[Res.aC];rw[h,Res.aC];unfold gJ;split<;>rfl
theorem sX (a:Ev Κ Φ o ρ x)(b:Aa Κ Φ args ρ f)(h:mtD m x f=.ok d)(c:aM d=Z7):Vv Κ Φ (.mt m o args) ρ d:=by obtain⟨g1,a⟩:=a;obtain⟨g,b,e⟩:=b;refine⟨?_,c⟩;rw[yK];rw[a,Res.aC,b,Res.aC,e];dsimp only;rw[h,Res.aC,mL c]
theorem aU (h:Ev Κ Φ a ρ x)(b:iS x=.ok k):Tt Κ Φ (.tv a) ρ k:=by obtain⟨g1,h⟩:=h;unfold Tt;rw[EL,h];exact b
theorem qH:Tt Κ Φ .nil ρ true:=rfl
theorem Kz (ha:Tt Κ Φ a ρ k)(hb:k=Z7->Tt Κ Φ b ρ k'):Tt Κ Φ (.and a b) ρ (k&&k'):=by
 unfold Tt at *
 rw[Td,ha];cases k with
 |true=>exact hb rfl
 |false=>rfl
theorem Ac (ha:Tt Κ Φ a ρ k):Tt Κ Φ (.not a) ρ (!k):=by
 unfold Tt at *
 rw[Te,ha];rfl
theorem z24 {b:Type}{cond:C}{m:b->D}{xs:List b}(p:b->Bool)(f:b->D)(c:evW Κ Φ it ρ=.ok w)(a:w.2=xs.map m)(r:b->Rho)
  (d:∀x∈xs,eD tg (gJ (m x) w.1,m x) (bc nt Z8++js.map λj=>cL (ρ.getD j Z8))=.ok (r x)) (hc:∀x∈xs,Tt Κ Φ cond (r x) (p x)) (g:∀x∈xs,p x=Z7->Vv Κ Φ elt (r x) (f x)):
  aE Κ Φ (.comp nt js N' tg it cond elt) ρ=.ok (.fr,.list ((xs.filter p).map f)):=by
 rw[EZ];rw[c,Res.aC,a]
 rw[EN (λx=>if p x then Z9 (f x)else Z8) xs λx a=>by
  rw[d x a,Res.aC];have:=hc x a;rw[this];cases e:p x with
  |true=>rw[(g x a e).1];rfl
  |false=>rfl]
 rw[Res.aC,Ks,Ay]
 have:(xs.filterMap λx=>if p x=Z7 then Z9 (f x)else Z8)=(xs.filter p).map f:=by
  clear a d hc g c
  induction xs with
  |nil=>rfl
  |cons x xs h=>
   cases e:p x with
   |true=>rw[pv (by rw[e];rfl),gz e,aw,h]
   |false=>rw[pq (by rw[e];rfl),g6 (e▸gc),h]
 rw[this]
theorem bI (h:aE Κ Φ a ρ=.ok (g,x))(hw:z5a x=.ok xs):evW Κ Φ (.tv a) ρ=.ok (g,xs):=by rw[EM,h,Res.aC];dsimp only;rw[hw];rfl
theorem E3 (h:Aa Κ Φ args ρ ds)(hw:fX ds=.ok xs):evW Κ Φ (.kM args) ρ=.ok (.fr,xs):=by obtain⟨ys,h,e⟩:=h;rw[Tf,h,Res.aC,e,hw];rfl
theorem AB (h:Vv Κ Φ t ρ d):aW Κ Φ (.asg (.nm i) t) ρ=.ok (.nx (ρ.set i (Z9 (.al,d)))):=by rw[Aw,h.1];show Res.ok (Out.nx (ρ.set i (Z9 (if aM d then(.al,d)else _))))=_;rw[xh h.2]
theorem qI (h:aE Κ Φ t ρ=.ok (.fr,.list xs))(a:imms xs=Z7):aW Κ Φ (.asg (.nm i) t) ρ=.ok (.nx (ρ.set i (Z9 (.fr,.list xs)))):=by rw[Aw,h];show Res.ok (Out.nx (ρ.set i (Z9 (if imms xs then .fr else .nu,.list xs))))=_;rw[xh a]
theorem KA (h:aE Κ Φ t ρ=.ok (.fr,.dict es))(a:bU es=Z7):aW Κ Φ (.asg (.nm i) t) ρ=.ok (.nx (ρ.set i (Z9 (.fr,.dict es)))):=by rw[Aw,h];show Res.ok (Out.nx (ρ.set i (Z9 (if bU es then .fr else .nu,.dict es))))=_;rw[xh a]
theorem E4 (hv:∀i,t≠.var i):aW Κ Φ (.ret t) ρ=(aE Κ Φ t ρ>>=λx=>.ok (.rt (iT x.1) x.2)):=by cases t<;>first|exact absurd rfl (hv _)|rfl
theorem z0f (h:Vv Κ Φ t ρ d):aW Κ Φ (.ret t) ρ=.ok (.rt .fr d):=by
 by_cases c:∀i,t≠.var i
 .rw[E4 c,h.1];rfl
 obtain⟨i,rfl⟩:∃i,t=.var i:=by cases t<;>first|exact⟨_,rfl⟩|exact(c λi z=>by cases z).elim
 have a:=h.1;rw[qF]at a;rw[S8];cases hr:ρ[i]? with
 |none=>rw[hr]at a;cases a
 |some o=>
  cases o with
  |none=>rw[hr]at a;cases a
  |some gd=>
   obtain⟨g,b⟩:=gd;rw[hr]at a;have:b=d:=by have:=congrArg (λr:Res GD=>match r with|.ok p=>p.2|_=>.none) a;exact this
   subst this;show Res.ok (Out.rt (if aM b=Z7 then _ else _) b)=_;rw[xh h.2]
theorem KC (hv:∀i,t≠.var i)(h:aE Κ Φ t ρ=.ok (.fr,.list xs)):aW Κ Φ (.ret t) ρ=.ok (.rt .fr (.list xs)):=by rw[E4 hv,h];rfl
theorem z1d (hc:Tt Κ Φ c ρ k)(h1:k=Z7->aW Κ Φ p ρ=r)(h2:k=Z6->aW Κ Φ q ρ=r):aW Κ Φ (.aZ c p q) ρ=r:=by
 rw[EJ,hc];cases k with
 |true=>exact h1 rfl
 |false=>exact h2 rfl
theorem pH:aW Κ Φ .nil ρ=.ok (.nx ρ):=rfl
theorem TL {y:GD}(h:aM y.2=Z7):okIn y=true:=by unfold okIn;rw[h];rfl
theorem TM (c:Vv Κ Φ b ρ x)(hk:Ev Κ Φ a ρ (.str n))(hr:ρ[i]?=Z9 (Z9 (.fr,.dict es)))(hl:es.length<aQ):aW Κ Φ (.dX i a b) ρ=.ok (.nx ((ρ.set i (Z9 (.fr,.dict (dput es (.str n) x)))).map gC)):=by
 obtain⟨d,hk⟩:=hk;rw[S9,c.1,Res.aC,hk,Res.aC,hr]
 dsimp only
 rw[xh];rw[TL c.2];exact xp hl
theorem TN (c:Vv Κ Φ b ρ (.int v))(hk:Ev Κ Φ a ρ (.str n))(hr:ρ[i]?=Z9 (Z9 (.fr,.dict (en l))))(nd:(ks l).Nodup)(hl:l.length<64):aW Κ Φ (.dX i a b) ρ=.ok (.nx ((ρ.set i (Z9 (.fr,.dict (en (put l n v))))).map gC)):=by rw[TM c hk hr (by rw[Ke];unfold aQ;omega),Kb nd]
theorem KD (h:ρ[i]?=Z9 (Z9 (g,d)))(hg:g≠.fr)(hi:aM d=Z7)(hw:z5a d=.ok xs):evF Κ Φ (.tv (.var i)) ρ=.ok (.fr,xs,ρ):=by
 have e3:jP ρ i=false:=by
  unfold jP;rw[h];cases g with
  |fr=>exact absurd rfl hg
  |od=>rfl
  |al=>rfl
  |nu=>rfl
 rw[Kq,e3];unfold jQ uO;rw[bI ((v_var h hi).1) hw];rfl
theorem E5 (h:ρ[i]?=Z9 (Z9 (.od,d)))(hi:aM d=Z6)(hw:z5a d=.ok xs):evF Κ Φ (.tv (.var i)) ρ=.ok (.od,xs,ρ):=by
 have e1:aE Κ Φ (.var i) ρ=.ok (.od,d):=by rw[qF];rw[h];show Res.ok (if aM d=Z7 then _ else _,d)=_;rw[hi];rfl
 have e3:jP ρ i=false:=by unfold jP;rw[h]
 rw[Kq,e3];unfold jQ uO;rw[bI e1 hw];rfl
theorem D9 (ha:Ev Κ Φ a ρ x)(hb:Ev Κ Φ b ρ y)(hx:seqR x=.ok xs)(hy:seqR y=.ok ys):evW Κ Φ (.zip a b) ρ=.ok (.al,zipD xs ys):=by obtain⟨g,ha⟩:=ha;obtain⟨g',hb⟩:=hb;show(aE Κ Φ a ρ>>=λx=>aE Κ Φ b ρ>>=λy=>seqR x.2>>=λxs=>seqR y.2>>=λys=>Res.ok (G.al,zipD xs ys))=_;rw[ha,Res.aC,hb,Res.aC];rw[hx,hy];rfl
theorem D' (ha:Ev Κ Φ a ρ x)(hx:seqR x=.ok xs):evW Κ Φ (.enum a) ρ=.ok (.al,z29 0 xs):=by obtain⟨g,ha⟩:=ha;show(aE Κ Φ a ρ>>=λx=>seqR x.2>>=λxs=>Res.ok (G.al,z29 0 xs))=_;rw[ha,Res.aC];rw[hx];rfl
theorem TQ {x:GD}(ha:aE Κ Φ a ρ=.ok x)(ca:pU x=Z7)(hx:seqR x.2=.ok xs):evF Κ Φ (.enum a) ρ=.ok (.al,z29 0 xs,ρ):=by
 have e:dG Κ Φ (.cons a .nil) ρ=.ok [x]:=by rw[Ax,ha];rfl
 show(dG Κ Φ (.cons a .nil) ρ>>=λys=>oI ys ρ)=_;rw[e,Res.aC];unfold oI
 dsimp only
 rw[ca,hx];rfl
theorem vG (hl:xs.length<=1000):seqR (.list xs)=.ok xs:=by show(if decide (xs.length<=aQ)=Z7 then Res.ok xs else .no)=_;rw[xp (show xs.length<=aQ by unfold aQ;omega)];rfl
theorem TR (h:imms xs=Z7)(hl:xs.length<=1000):seqR (.list xs)=.ok xs:=vG hl
theorem E6 {b:Type}(m:b->D):∀k (a:List b),z29 k (a.map m)=(a.zipIdx k).map λp=>.tuple [.int p.2,m p.1]
 |_,[]=>rfl
 |k,x::a=>by rw[aw,z29,E6 m (k+1) a];rfl
theorem E7 (a:aM x=Z7)(b:aM y=Z7):eD (.tp [i,j]) (gJ (.tuple [x,y]) g,.tuple [x,y]) ρ=.ok ((ρ.set i (Z9 (.al,x))).set j (Z9 (.al,y))):=by show Res.eR (Z9 ((ρ.set i (Z9 (z17 (gJ x _,x)))).set j (Z9 (z17 (gJ y _,y)))))=_;rw[mL a,mL b];rfl
theorem E8 (h:evF Κ Φ it ρ=.ok w)(k:dB (λx ρ1=>eD t' (gJ x w.1,x) ρ1>>=λkO=>aW Κ Φ p kO) w.2.1 w.2.2=r):aW Κ Φ (.aV t' it p) ρ=r:=by rw[Ta,h];exact k
theorem zlv {d k:Type}{m:k->D}{j:List k}(h:evF Κ Φ it ρ=.ok (g,j.map m,ρ1))(I:d->Rho->Prop)(step:d->k->d)(l:d)(h0:I l ρ1)
  (hf:∀a x ρ,x∈j->I a ρ->∃b,(eD n (gJ (m x) g,m x) ρ>>=λc=>aW Κ Φ p c)=.ok (.nx b)/\I (step a x) b) (hk:∀b,I (j.foldl step l) b->aW Κ Φ rest b=r):aW Κ Φ (.seq (.aV n it p) rest) ρ=r:=by
 obtain⟨b,e,i⟩:=Kr (f:=λx ρ1=>eD n (gJ x g,x) ρ1>>=λc=>aW Κ Φ p c) I step j l ρ1 hf h0;exact eG (E8 h e) (hk b i)
theorem KG (a:Tt Κ Φ c ρ k)(hk:k=Z7)(h:aW Κ Φ p ρ=.ok (.rt g d)):aW Κ Φ (.seq (.aZ c p q) rest) ρ=.ok (.rt g d):=z07 (z1d a (λ_=>h) λz=>by rw[hk]at z;cases z)
theorem bO (hc:Tt Κ Φ c ρ k)(a:k=Z6)(h:aW Κ Φ rest ρ=r):aW Κ Φ (.seq (.aZ c p .nil) rest) ρ=r:=eG (z1d hc (λz=>by rw[a]at z;cases z) λ_=>pH) h
end
end
end Mk
namespace Mi
open PySem PySem.Spec PyProof.Rows L2
section
open PySem.SeqAt
end
section
open PySem.MeetsSeq PySem.MeetsSeq3
def EqW (P:cw)(w:World)(A:gk)(s:ay)(x y:Value):Prop:=∀(E:Value->ay->Prop) (Q:Bool->ay->Prop),Q Z7 s->wpAny (model P w) A (eqBool x y) Q E s
section
variable {P:cw}{w:World}{l b:Addr}{xs ys:Array Value}{n m:Nat}{u v:Option Addr}{f g:Array (Option Value)}
abbrev lO (xs:Array Value)(n:Nat)(u:Option Addr)(f:Array (Option Value)):Obj:={cls:=.type "list",dict:=u,data:=.seq xs n,slots:=f}
theorem z80 (hs:xs.size=ys.size)(c:Bool)(k:Nat):∀(i:Nat),xs.size-i=k->∀(A:gk) (R:Result->ay->Prop) (s:ay),
  s.heap.get? l=Z9 (lO xs n u f)->s.heap.get? b=Z9 (lO ys m v g)->(∀j (h1:j<xs.size) (h2:j<ys.size),EqW P w A.in1 s xs[j] ys[j])->R (.ok (.ret (.bool c))) s->
  wpAny (model P w) A.in1 (Builtin.«list.__eq__.loop» ⟨[.ref l,.ref b,kr i,kr (if c=true then 2 else 3)],[]⟩) (λfin s'=>match fin with|.done f=>R (.ok f) s'|.again c'=>c'.quiet=true/\nc (model P w) A c' R s') (λe s'=>R (.error e) s') s:=by
 induction k with
 |zero=>
  intro i hk A R s hl hb he h;obtain⟨h1,h2,h3,h4,h5⟩:=s;have z1:xs[((i:Nat):Int).toNat]?=none:=by simp;omega
  have z2:ys[((i:Nat):Int).toNat]?=none:=by simp;omega
  cases c
  all_goals
   wp_walk using AutoSeq1.wpAny_loadPart' hl,AutoSeq1.wpAny_loadPart' hb
   rw[z1,z2]
   wp_walk using AutoSeq1.wpAny_loadPart' hl,AutoSeq1.wpAny_loadPart' hb
  .show R (.ok (.ret (.bool (xs.size != ys.size)))) _;rw[hs];simpa using h
  .show R (.ok (.ret (.bool (xs.size==ys.size)))) _;rw[hs];simpa using h
 |succ k ih=>
  intro i hk A R s hl hb he h;obtain⟨h1,h2,h3,h4,h5⟩:=s;have q1:i<xs.size:=by omega
  have q2:i<ys.size:=by omega
  have z1:xs[((i:Nat):Int).toNat]?=Z9 xs[i]:=by simp[q1]
  have z2:ys[((i:Nat):Int).toNat]?=Z9 ys[i]:=by simp[q2]
  have hc:((i:Int)+1)=((i+1:Nat):Int):=by omega
  cases c
  all_goals
   wp_walk using AutoSeq1.wpAny_loadPart' hl,AutoSeq1.wpAny_loadPart' hb
   rw[z1,z2];refine ac (he i q1 q2 _ _ ?_)
   wp_walk
   rw[hc];refine⟨j3 plain_eq_loop _,i5 entry_eq_loop ?_⟩;rw[Around.under_plainId plain_eq_loop _]
  .exact ih (i+1) (by omega) A R _ hl hb he h
  .exact ih (i+1) (by omega) A R _ hl hb he h
theorem zk3 {A:gk}{s:ay}{E Q:Value->ay->Prop}(hs:xs.size=ys.size)(hl:s.heap.get? l=Z9 (lO xs n u f))(hb:s.heap.get? b=Z9 (lO ys m v g))(hu:A.units<cLine)(he:∀j (h1:j<xs.size) (h2:j<ys.size),EqW P w A.in1 s xs[j] ys[j])(h:Q (.bool Z7) s):
  wpAny (model P w) A (eh .Eq (.ref l) (.ref b)) Q E s:=by
 have hT:s.TypeIs (.ref l) "list":=⟨_,hl,rfl⟩;refine ny (op:=.Eq) hT ⟨_,hb,rfl⟩ F.slot_list_eq (wq (si F.slot_list_eq.plain F.entry_list_eq (F.slot_list_eq.check _ _ _ _ _ _ _ _ hT (F.args_list_eq_2 _ _) ?_))) hu;obtain⟨h1,h2,h3,h4,h5⟩:=s;have f3:=AutoSeq1.sub_list_list;have kR:¬(xs.size != ys.size)=true:=by simp[hs]
 wp_walk using AutoSeq1.wpAny_loadPart' hl,AutoSeq1.wpAny_loadPart' hb
 refine⟨j3 plain_eq_loop _,i5 entry_eq_loop ?_⟩;rw[Around.under_plainId plain_eq_loop _];exact z80 (n:=n) (m:=m) (u:=u) (v:=v) (f:=f) (g:=g) hs Z7 _ 0 rfl A (wants (λv s'=>v≠.notImplemented/\Q v s') E) _ hl hb he (show _/\_ from⟨nofun,h⟩)
theorem zk0 {A:gk}{s:ay}{E Q:Value->ay->Prop}(hs:xs.size=ys.size)(hl:s.heap.get? l=Z9 (lO xs n u f))(hb:s.heap.get? b=Z9 (lO ys m v g))(hu:A.units<cLine)(c:∀j (d:j<xs.size) (e:j<ys.size),EqW P w A.in1 s xs[j] ys[j])(h:Q (.bool Z6) s):
  wpAny (model P w) A (eh .NotEq (.ref l) (.ref b)) Q E s:=by
 have a:s.TypeIs (.ref l) "list":=⟨_,hl,rfl⟩;refine ny (op:=.NotEq) a ⟨_,hb,rfl⟩ F.slot_list_ne (wq (si F.slot_list_ne.plain F.entry_list_ne (F.slot_list_ne.check _ _ _ _ _ _ _ _ a (F.args_list_ne_2 _ _) ?_))) hu;obtain⟨d,e,o,p,q⟩:=s;have r:=AutoSeq1.sub_list_list;have i:¬(xs.size != ys.size)=true:=by simp[hs]
 wp_walk using AutoSeq1.wpAny_loadPart' hl,AutoSeq1.wpAny_loadPart' hb
 refine⟨j3 plain_eq_loop _,i5 entry_eq_loop ?_⟩;rw[Around.under_plainId plain_eq_loop _];exact z80 (n:=n) (m:=m) (u:=u) (v:=v) (f:=f) (g:=g) hs Z6 _ 0 rfl A (wants (λv k=>v≠.notImplemented/\Q v k) E) _ hl hb c (show _/\_ from⟨nofun,h⟩)
end
theorem KH:∀{a:List (Key×Value)},(a.map (·.1)).Nodup->(k,y)∈a->PySem.valueAt a k=Z9 y
 | [],_,h=>nomatch h
 |p::a,nd,h=>by
  rw[aw,ci]at nd;unfold PySem.valueAt;rcases ao.mp h with rfl|h
  .rw[lq (by simp)];rfl
  .rw[lr (by
    intro z;exact nd.1 ((by simpa using z)▸au.mpr ⟨_,h,rfl⟩))]
   exact KH nd.2 h
theorem KI (nd:(b.map (·.1)).Nodup):∀{a l2:List (Key×Value)},(∀p∈l2,p∈b)->ji (λp q:Key×Value=>p.1=q.1/\SeqAt.EqAt A s p.2 q.2 Z7) a l2->W.KeqHits A s b a Z7
 |_,_,_,.nil=>.nil
 |(k,v)::a,(f,y)::l2,hm,.cons ⟨c,d⟩ t=>by cases c;exact .hit (KH nd (hm _ (.head _))) d (KI nd (λp e=>hm p (.tail _ e)) t)
def E9 (d:am):Prop:=aG 30 d=Z7\/∃es,d=.dict es/\∀e∈es,aG 30 e.2=Z7
section
variable {X:Cx}{pins:List (Addr×Obj)}{σ:L2.St}{H:Hp}{s:ay}{B B':Ad->Prop}
theorem TU (h:kD a=kD b):a=b:=by cases a<;>cases b<;>cases h<;>rfl
theorem KJ (I:Inv X pins σ H s)(hd:aG 30 d=Z7)(e:Rep X.K H B x d)(f:Rep X.K H B' y d)(g:RelV x a)(h:RelV y b)(hu:A.units+40<cLine):SeqAt.EqAt A s a b true:=by obtain⟨⟨i,j⟩,c,m⟩:=Rep.reads I d 30 hd e g;obtain⟨⟨bs,k⟩,l,n⟩:=Rep.reads I d 30 hd f h;have:=SeqAt.eqAt_reads d d A s a b i bs j k c l (by omega);rw[SeqAt.eqv_refl d c]at this;exact this
theorem KN (I:Inv X pins σ H s)(hu:A.units+40<cLine):∀{es:bA} {a b:List (Key×V)} {c f:List (Key×Value)},(∀e∈es,aG 30 e.2=Z7)->REs X.K H B a es->REs X.K H B' b es->KV a c->KV b f->ji (λp q:Key×Value=>p.1=q.1/\SeqAt.EqAt A s p.2 q.2 Z7) c f
 | [],a,b,c,f,_,g,h,i,j=>by cases g;cases h;cases i;cases j;exact .nil
 |(kd,d)::es,a,b,c,f,hs,g,h,i,j=>by
  obtain⟨ka,t,u,rfl,m,_,ra,sa⟩:=g;obtain⟨v,w,x,rfl,n,_,rb,o⟩:=h;cases i with
  |cons k t1=>
   cases j with
   |cons l t2=>refine .cons ⟨k.1.symm.trans ((TU (m.symm.trans n)).trans l.1),?_⟩ (KN I hu (λe r=>hs e (.tail _ r)) sa o t1 t2);exact KJ I (hs _ (.head _)) ra rb k.2 l.2 hu
theorem AD {α β:Type}{R:α->β->Prop}:∀{l1:List α} {l2:List β},ji R l1 l2->l1.length=l2.length
 |_,_,.nil=>rfl
 |_,_,.cons _ t=>congrArg (· +1) (AD t)
theorem KO (I:Inv X pins σ H s)(hs:∀e∈es,aG 30 e.2=Z7)(ra:Rep X.K H B (.ref a) (.dict es))(rb:Rep X.K H B' (.ref b) (.dict es))(hu:A.units+50<cLine)(ne:Bool)(h:Q (.bool (!ne)) s):wpAny (model X.prog X.w) A (eh (if ne=Z7 then .NotEq else .Eq) (.ref a) (.ref b)) Q E s:=by
 obtain⟨a',k1,e1,h1,_,q1⟩:=ra;cases e1;obtain⟨b',k2,e2,h2,_,q2⟩:=rb;cases e2;obtain⟨_,ha,v1,p1,d1⟩:=pS I.hok h1;obtain⟨_,hb,v2,p2,d2⟩:=pS I.hok h2;have pp:=KN I (A:=A.in1) (by show A.units+1+40<_;omega) hs q1 q2 p1 p2;have nd:(v2.map (·.1)).Nodup:=by obtain⟨_,_,_,_,_,_,_,_,nd⟩:=d2;exact nd
 have ll:=AD pp;have hit:v1.length=v2.length->W.KeqHits A.in1 s v2 v1 true:=λ_=>KI nd (λ_ z=>z) pp;cases ne
 .refine W.keq_eq ha hb d1 d2 (by omega) hit ?_;rw[ll,beq_self_eq_true];exact h
 .refine W.keq_ne ha hb d1 d2 (by omega) hit ?_;rw[ll,beq_self_eq_true];exact h
theorem TV (I:Inv X pins σ H s)(hd:E9 d)(c:Rep X.K H B x d)(f:Rep X.K H B' y d)(g:RelV x a)(i:RelV y b)(hu:A.units+60<cLine):EqW X.prog X.w A s a b:=by
 rcases hd with hd|⟨es,rfl,hs⟩
 .exact λE Q h=>KJ I hd c f g i (by omega) X.prog X.w E Q h
 .obtain⟨j,n,k,_⟩:=id c;obtain⟨l,o,m,_⟩:=id f;subst k m;cases g;cases i;intro E Q h;by_cases e:j=l
  .subst e;exact SeqAt.EqAt.same _ X.prog X.w E Q h
  .unfold eqBool;refine dh (wpAny_ite_split (λz=>absurd (by have:=eq_of_beq z;injection this) e) λ_=>ac ?_);exact KO I hs c f (by omega) Z6 (gm h)
end
def qJ (K:Z5)(ne:Bool):R2:=λx y H Q=>∃(a b:Addr) (d:am) (B B':Ad->Prop),x=.ref a/\y=.ref b/\Rep K H B x d/\Rep K H B' y d/\((∃es,d=.dict es/\∀e∈es,aG 30 e.2=Z7)\/∃ds,d=.list ds/\∀e∈ds,E9 e)/\Q (.bl (!ne)) H
theorem KP (hu:X.A.units+64<cLine)(ne:Bool):OpR X (eh (if ne=Z7 then .NotEq else .Eq)) (qJ X.K ne):=λl s σ H x y v u Q I L M h=>by
 obtain⟨a,b,d,B,B',rfl,rfl,ra,rb,hd,q⟩:=h;cases L;cases M;rcases hd with⟨es,rfl,hs⟩|⟨ds,rfl,hs⟩
 .exact KO I hs ra rb (by omega) ne ⟨.bl (!ne),H,I,rfl,q⟩
 .obtain⟨a1,m,c,N,n⟩:=kQ ra;cases c;obtain⟨b1,o,e,l2,p⟩:=kQ rb;cases e;obtain⟨i1,r,⟨o1,O,f,P,z1,t1⟩,_⟩:=I.list N;obtain⟨g,t,⟨o2,R,i,S,z2,t2⟩,_⟩:=I.list l2;have T:o1=lO i1.toArray O o1.dict o1.slots:=by obtain⟨_,_,_,_⟩:=o1;subst P t1;rfl
  have U:o2=lO g.toArray R o2.dict o2.slots:=by obtain⟨_,_,_,_⟩:=o2;subst S t2;rfl
  rw[T]at f;rw[U]at i;have m1:=AD r;have m2:=AD t;have V:=n.length;have W:=p.length
  have z:∀j C (D:j<g.toArray.size),EqW X.prog X.w X.A.in1 s i1.toArray[j] g.toArray[j]:=λj C D=>by
   have k:j<i1.length:=by simpa using C
   have c:m[j]?=Z9 (m[j]'(by omega)):=aq _;have e:o[j]?=Z9 (o[j]'(by omega)):=aq _;obtain⟨Y,E,Z⟩:=Reps.eS n c;obtain⟨d2,F,p2⟩:=Reps.eS p e;rw[E]at F;cases F;obtain⟨u1,G,r1⟩:=r.get c;obtain⟨u2,J,r2⟩:=t.get e;rw[aq k]at G;rw[aq (by simpa using D)]at J;cases G;cases J;exact TV I (hs Y (bn E)) Z p2 r1 r2 (by show X.A.units+1+60<_;omega)
  cases ne
  .exact zk3 (by grind) f i (by omega) z ⟨.bl Z7,H,I,rfl,q⟩
  .exact zk0 (by grind) f i (by omega) z ⟨.bl Z6,H,I,rfl,q⟩
def AE:V->List V->Hp->VK->Prop:=λx vs H Q=>∃l kvs,x=.ref l/\vs=[]/\H l=Z9 (.dK kvs)/\Q .bG (upd H l (.dK []))
theorem TX:Ck X "dict.clear" AE:=by
 rintro pins s σ H x vs v us Q I rx rv ⟨l,kvs,rfl,rfl,hH,q⟩
 cases rx;cases rv;exact Oq I hH λs' I'=>⟨.bG,_,I',rfl,q⟩
end
open PySem.W
section
open PySem.SeqAt
end
def jY (K:Z5)(en:Bool)(R:It->Hp->Prop)(v:V)(H1:Hp):Prop:=∃B d xs,Rep K H1 B v d/\(if en then seqR d else z5a d)=.ok xs/\∀J,Walk K J B H1 (if en then z29 0 xs else xs)->R J H1
def AF (K:Z5)(en:Bool)(t:TE):TI:=λσ H R=>t σ H (jY K en R)
section
variable {X:Cx}{a tg:Expr}{t:TE}
theorem TY (c:PE X a t):PI X k a (AF X.K Z6 t):=by intro b s f H R I h;exact aN (c b s f H _ I h) λv l ⟨y,m,g,i,B,d,n,j,e,q⟩=>z3d g i j e q
theorem TZ (hm:X.mg "enumerate"=Z8)(i:Gl X "enumerate")(hs:isStar a=Z6)(j:PE X a t):PI X (.Tuple f r tp) (.Call (.Name "enumerate" p) [a] [] pos) (AF X.K Z7 t):=by
 intro b s k H R I h;refine Call_ (z2j I i hm D5 (PyProof.Rows.callWith_type1 (aN (cZ j iR hs pos b s k H (λc g=>match c with| [v]=>jY X.K Z7 R v g|_=>False) I h) λx y ⟨c,g,l,m,z⟩=>?_) (dW hs) rfl));rcases c with _|⟨v,_|⟨w,c⟩⟩
 .exact z.elim
 .obtain⟨u,rfl,n⟩:=vals1 m;obtain⟨B,d,A,o,e,q⟩:=z;exact z4m l n o e q
 .exact z.elim
end
def sY:List V->Hp->VK->Prop:=λxs H Q=>∃i:Int,xs=[.int i]/\Q (.int (if i<0 then -i else i)) H
theorem T1:CallR X (.builtin "abs") sY:=λa s b H c d Q I r h=>by obtain⟨i,rfl,q⟩:=h;obtain⟨u,rfl,⟨t,rfl⟩⟩:=vals1 r;exact PyProof.Rows.call_abs_int λu e=>⟨.int _,H,I.tok _,⟨u,rfl⟩,q⟩
def AG (K:Z5):List V->Hp->VK->Prop:=λxs H Q=>∃a d B,xs=[.ref a]/\Rep K H B (.ref a) d/\(aG 40 d=Z7/\d.showable=Z7/\d.shown.length<=bb)/\Q (.str d.shown) H
theorem T2 (hr:Room r X.A):CallR X (.builtin "repr") (AG X.K):=λb s g H i j Q I r h=>by obtain⟨a,d,B,rfl,rp,⟨hs,c,f⟩,q⟩:=h;obtain⟨u,rfl,rfl⟩:=vals1 r;obtain⟨⟨k,ra⟩,cl,dp⟩:=Rep.reads I d 40 hs rp rfl;exact repr_of_reads' ra c (PyData.noDict_hsm (PyData.hasDict_of_canLay d cl)) hr.gd (by have:=hr.un;omega) (λ_ _ e=>e) (λl u m hk=>⟨.str d.shown,H,I.kept hk,⟨u,rfl⟩,q⟩) f
inductive W where
 |aY (c:C)|raw (i:Nat)|bin (op:ro) (a b:W)|tup (xs:W)|lst (xs:W)|dR|ix (a b:W)|vH (a b:W)|cP (j:Nat) (as:W)|tp (c:C)|tc (op:CmpOp) (a b:W)|ti (ng:Bool) (a:W)|yM (a:W)|not (a:W)|qK (a b:W)|gi (j:Nat)|mM (a b:W)|mO (a:W)|lc (nt:Nat) (js:List Nat) (N':List Str) (t:Tg) (en:Bool) (it c e:W)|yN (ne:Bool) (a b:W)|vI (ne:Bool) (a b:W)|AH (p:Str) (a:W)|rp (a:W)|ab (a:W)|yO (a:W)|nil|cons (a r:W)
 deriving Inhabited
structure Wc where
 K:Z5
 mg:Str->Option Value
 Κ:List D
 Φ:List Fn
 E:XK
 fn:List Sp
 me:List (Addr×Str×Sp)
 cl:List (Addr×Sp)
 xf:Option V:=Z8
 gi:List Int:=[]
 hf:List (Addr×Sp):=[]
 md:List (Addr×Str×Sp):=[]
 mq:List (Addr×Str×Sp):=[]
structure Gw where
 g:Gm
 fn:List (Str×Nat)
 me:List (Str×Nat)
 cl:List (Str×Nat)
 xf:Option Str:=Z8
 gi:List Str:=[]
 fld:List (Str×Str):=[]
 hf:List (Str×Nat):=[]
 md:List (Str×Nat):=[]
 mq:List (Str×Str):=[]
def KQ {α:Type}(us:List α):List α->List α
 | [w]=>us++[w]
 |_=>[]
def qL:TE:=λ_ _ _=>False
def KR (K:Z5)(t:TE):TT:=λσ H Q=>t σ H λx H'=>∃k,lN K x H' k/\Q k H'
mutual
def wE:Wc->W->TE
 |Z,.aY c=>tD Z.K (aE Z.Κ Z.Φ c)
 |Z,.raw i=>wI i
 |Z,.bin op a b=>gK (oS Z.K (cE op)) (wE Z a) (wE Z b)
 |Z,.tup xs=>wV (wA Z xs)
 |Z,.lst xs=>wW (wA Z xs)
 |Z,.dR=>HE
 |Z,.ix a b=>gK (lY Z.K) (wE Z a) (wE Z b)
 |Z,.vH a b=>HD (wE Z a) (wE Z b)
 |Z,.cP j as=>match Z.fn[j]? with|some sp=>rC sp [] Z.E (wA Z as)|none=>qL
 |Z,.gi j=>match Z.gi[j]? with|some n=>λ_ H Q=>Q (.int n) H|none=>qL
 |Z,.mM a b=>gK (rK Z.K) (wE Z a) (wE Z b)
 |Z,.yN ne a b=>gK (qJ Z.K ne) (wE Z a) (wE Z b)
 |Z,.AH p a=>HI [(tD Z.K (aE Z.Κ Z.Φ (.str p)),wE Z a)]
 |Z,.rp a=>jF (AG Z.K) (lP (wE Z a) fC)
 |Z,.ab a=>jF sY (lP (wE Z a) fC)
 |Z,.yO a=>jF (rAgg Z.K "tuple") (lP (wE Z a) fC)
 |Z,.mO a=>jF (rAgg Z.K "list") (lP (wE Z a) fC)
 |Z,.lc nt js _ t en it c e=>xw (AF Z.K en (wE Z it)) (tDG Z.K t) (wT {Z with E:=λ_ _ _=>False,xf:=Z8} c) (wE {Z with E:=λ_ _ _=>False,xf:=Z8} e) (eP nt js)
 |_,_=>qL
def wA:Wc->W->TA
 |Z,.nil=>fC
 |Z,.cons a r=>lP (wE Z a) (wA Z r)
 |_,_=>λ_ _ _=>False
def wT:Wc->W->TT
 |Z,.tp c=>dS Z.K (dF Z.Κ Z.Φ c)
 |Z,.tc op a b=>qY (gK (uW Z.K (mB (cmpD op))) (wE Z a) (wE Z b))
 |Z,.ti ng a=>qY (if ng then G9 (wE Z a)else wJ (wE Z a))
 |Z,.vI ne a b=>qY (gK (qJ Z.K ne) (wE Z a) (wE Z b))
 |Z,.yM a=>KR Z.K (wE Z a)
 |Z,.not a=>wK (wT Z a)
 |Z,.qK a b=>Hc (wT Z a) (wT Z b)
 |_,.nil=>xv
 |_,_=>λ_ _ _=>False
end
def AI (Γ:Gw)(scope:Scope)(N':List Str):Gw:={Γ with g:={Γ.g with N:=N',sc:=z0 scope Γ.g.sc,blk:=Z7,xc:=Z8,kp:=[]},xf:=Z8}
def T3 (g:Gm)(x:Str)(o:Option Expr):Bool:=o.any λk=>chkE g (.str x) k
def T4:W->Bool
 |.nil=>Z7
 |_=>Z6
mutual
def bK:Gw->W->Expr->Bool
 |Γ,.aY c,e=>chkE Γ.g c e
 |Γ,.raw i,e=>gR (eT Γ.g i) e
 |Γ,.bin op a b,e=>(oM e).any λv=>decide (v.2.1=op)&&z5 op&&bK Γ a v.1&&bK Γ b v.2.2
 |Γ,.tup xs,e=>(lW e).any λes=>qM Γ xs es
 |Γ,.lst xs,e=>(oN e).any λes=>qM Γ xs es
 |Γ,.dR,e=>(z4 e).any λv=>v.1.isEmpty&&v.2.isEmpty
 |Γ,.ix a b,e=>(gQ e).any λv=>z2n v.2&&bK Γ a v.1&&bK Γ b v.2
 |Γ,.vH a b,e=>(gQ e).any λv=>z2n v.2&&bK Γ a v.1&&bK Γ b v.2
 |Γ,.cP j as,e=>(hP e).any λv=>uQ Γ.g v.1&&(Γ.fn[j]?==Z9 (v.1,v.2.length))&&qM Γ as v.2&&(Γ.g.cm&& !v.2.isEmpty)
 |Γ,.gi j,e=>gR (λx=>uQ Γ.g x&&(Γ.gi[j]?==Z9 x)) e
 |Γ,.mM a b,e=>(gQ e).any λv=>z2n v.2&&bK Γ a v.1&&bK Γ b v.2
 |Γ,.yN ne a b,e=>(pV e).any λv=>decide (v.2.1=[if ne=Z7 then .NotEq else .Eq])&&(bB v.2.2).any λr=>z57 (if ne=Z7 then .NotEq else .Eq)&& !(fj (if ne=Z7 then .NotEq else .Eq) r)&&bK Γ a v.1&&bK Γ b r
 |Γ,.AH p a,e=>(z4 e).any λv=>(bB v.1).any λk=>(bB v.2).any λx=>T3 Γ.g p k&&bK Γ a x
 |Γ,.rp a,e=>Γ.g.cm&&(hP e).any λv=>(v.1==("repr":Str))&&cb Γ.g v.1&&(bB v.2).any λy=>!isStar y&&bK Γ a y
 |Γ,.ab a,e=>(hP e).any λv=>(v.1==("abs":Str))&&cb Γ.g v.1&&(bB v.2).any λy=>!isStar y&&bK Γ a y
 |Γ,.yO a,e=>(hP e).any λv=>(v.1==("tuple":Str))&&cb Γ.g v.1&&(bB v.2).any λy=>!isStar y&&bK Γ a y
 |Γ,.mO a,e=>(hP e).any λv=>(v.1==("list":Str))&&cb Γ.g v.1&&(bB v.2).any λy=>!isStar y&&bK Γ a y
 |Γ,.lc nt js N' t en it c x,e=>Γ.g.cm&&(CP e).any λv=>(bB v.2.1).any λg=>((g.is_async==0)&&nZ Γ.g.N Γ.g.sc v.2.2 N' nt js&&decide N'.Nodup&&oK g.iter)&&(if en then isTup g.target&&(hP g.iter).any λu=>(u.1==("enumerate":Str))&&cb Γ.g u.1&&(bB u.2).any λy=>!isStar y&&bK Γ it y else bK Γ it g.iter)&&kP (AI Γ v.2.2 N').g t g.target&&(match g.ifs with| []=>T4 c| [y]=>qN (AI Γ v.2.2 N') c y|_=>Z6)&&bK (AI Γ v.2.2 N') x v.1
 |_,_,_=>Z6
def qM:Gw->W->List Expr->Bool
 |Γ,.nil,es=>es.isEmpty
 |Γ,.cons a r,es=>match es with|e::es=>!isStar e&&bK Γ a e&&qM Γ r es|_=>Z6
 |_,_,_=>Z6
def qN:Gw->W->Expr->Bool
 |Γ,.tp c,e=>eE Γ.g c e
 |Γ,.tc op a b,e=>(pV e).any λv=>decide (v.2.1=[op])&&(bB v.2.2).any λr=>z57 op&& !(fj op r)&&bK Γ a v.1&&bK Γ b r
 |Γ,.ti ng a,e=>(pV e).any λv=>decide (v.2.1=[if ng then .IsNot else .Is])&&(bB v.2.2).any λr=>decide (iE r=Z9 .none)&&bK Γ a v.1
 |Γ,.vI ne a b,e=>(pV e).any λv=>decide (v.2.1=[if ne=Z7 then .NotEq else .Eq])&&(bB v.2.2).any λr=>z57 (if ne=Z7 then .NotEq else .Eq)&& !(fj (if ne=Z7 then .NotEq else .Eq) r)&&bK Γ a v.1&&bK Γ b r
 |Γ,.yM a,e=>plainT e&&bK Γ a e
 |Γ,.not a,e=>(z3 e).any λv=>decide (v.1=.Not)&&qN Γ a v.2
 |Γ,.qK a b,e=>(uR e).any λv=>decide (v.1=.Or)&&uS (λx=>qN Γ a x) (λx=>qN Γ b x) .Or v.2.2 v.2.1
 |_,_,_=>Z6
end
structure Zok (Γ:Gw)(Z:Wc)(CX:CXT)(P:cw)(w:World)(K:Z5)(mg:Str->Option Value)(base:Heap)(r:Nat):Prop where
 kk:Z.K=K
 mm:Z.mg=mg
 fn:∀(j:Nat) x n,Γ.fn[j]?=Z9 (x,n)->∃sp f fd ps k,Z.fn[j]?=Z9 sp/\k<=r/\FnOk P w K mg base CX k f fd ps sp/\mg x=Z9 (.ref f)/\Z4 K (.ref f)=Z7/\Binds K fd ps []
 me:∀(j:Nat) m n,Γ.me[j]?=Z9 (m,n)->∃C sp f fd ps k,Z.me[j]?=Z9 (C,m,sp)/\k<=r/\FnOk P w K mg base CX k f fd ps sp/\uI K C/\Meth K C m f/\Binds K fd ps []
 cl:∀(j:Nat) x n,Γ.cl[j]?=Z9 (x,n)->∃C sp f fd ps k,Z.cl[j]?=Z9 (C,sp)/\k+1<=r/\FnOk P w K mg base CX k f fd ps sp/\Mk K C f/\mg x=Z9 (.ref C)/\Binds K fd ps []
 gi:∀(j:Nat) x,Γ.gi[j]?=Z9 x->∃n t,Z.gi[j]?=Z9 n/\mg x=Z9 (.int n t)
 hf:∀(j:Nat) x n,Γ.hf[j]?=Z9 (x,n)->∃sp f fd ps k,Z.hf[j]?=Z9 (f,sp)/\k<=r/\FnOk P w K mg base CX k f fd ps sp/\mg x=Z9 (.ref f)/\Z4 K (.ref f)=Z7/\Binds K fd ps []
 md:∀(j:Nat) m n,Γ.md[j]?=Z9 (m,n)->∃C sp f fd ps k,Z.md[j]?=Z9 (C,m,sp)/\k<=r/\FnOk P w K mg base CX k f fd ps sp/\uI K C/\Meth K C m f/\Binds K fd ps [.none]
 mq:∀(j:Nat) m kn,Γ.mq[j]?=Z9 (m,kn)->∃C sp f fd ps k,Z.mq[j]?=Z9 (C,m,sp)/\k<=r/\FnOk P w K mg base CX k f fd ps sp/\uI K C/\Meth K C m f/\rD K fd ps [kn] KQ KQ
structure lA (Γ:Gw)(Z:Wc)(CX:CXT)(X:Cx)(r:Nat):Prop extends Zok Γ Z CX X.prog X.w X.K X.mg X.base r where
 ck:Cok Γ.g Z.Κ Z.Φ X r
 room:Γ.g.cm=Z7->Room r X.A
 px:zaj CX X Z.E
 xf:∀f,Γ.xf=Z9 f->∃v,Z.xf=Z9 v/\∀n c,Γ.g.xc=Z9 (n,c)->∀p q,rT (.Name n p)=Z7->PE X (.Attribute (.Name n p) f q) (λ_ H Q=>Q v H)
 KS:∀outer H s e s',¬CX outer H s (λ_ _ _=>False) e s'
section
variable {Γ:Gw}{Z:Wc}{CX:CXT}{X:Cx}{r:Nat}
structure We (w:W):Prop where
 E:∀(Γ:Gw) (Z:Wc) (CX:CXT) (X:Cx) (r:Nat) (e:Expr),lA Γ Z CX X r->bK Γ w e=Z7->PE X e (wE Z w)
 A:∀(Γ:Gw) (Z:Wc) (CX:CXT) (X:Cx) (r:Nat) (es:List Expr),lA Γ Z CX X r->qM Γ w es=Z7->PA X es (wA Z w)
 T:∀(Γ:Gw) (Z:Wc) (CX:CXT) (X:Cx) (r:Nat) (e:Expr),lA Γ Z CX X r->qN Γ w e=Z7->PT X e (wT Z w)/\((∃o l p,e=.BoolOp o l p)->PW X e (wT Z w))
theorem We.x (h:∀Γ Z CX X r e,lA Γ Z CX X r->bK Γ w e=Z7->PE X e (wE Z w))(a:∀Γ es,qM Γ w es=Z6)(b:∀Γ e,qN Γ w e=Z6):We w where
 E:=h
 A:=λΓ Z CX X r es k z=>ff (a Γ es) z
 T:=λΓ Z CX X r e k z=>ff (b Γ e) z
theorem We.t (h:∀Γ Z CX X r e,lA Γ Z CX X r->qN Γ w e=Z7->PT X e (wT Z w)/\((∃o l p,e=.BoolOp o l p)->PW X e (wT Z w)))(a:∀Γ e,bK Γ w e=Z6)(b:∀Γ es,qM Γ w es=Z6):We w where
 E:=λΓ Z CX X r e k z=>ff (a Γ e) z
 A:=λΓ Z CX X r es k z=>ff (b Γ es) z
 T:=h
theorem KU:∀{w:W} {es:List Expr},qM Γ w es=Z7->(es.all λe=> !isStar e)=Z7
 |.nil,es,h=>by cases eK h;rfl
 |.cons a r,[],h=>by cases h
 |.cons a r,e::es,h=>by obtain⟨b,_,c⟩:=aS h;rw[c8,b,KU c];rfl
theorem lA.rm (k:lA Γ Z CX X r)(hc:Γ.g.cm=Z7)(h:j<=r):Room j X.A:=(k.room hc).mono h
theorem eqB {c:Type} [BEq c] [LawfulBEq c] {a b:c}(h:(a==b)=Z7):a=b:=eq_of_beq h
theorem Fb (h:((pV e).any λv=>decide (v.2.1=[c])&&(bB v.2.2).any λr=>z57 c&& !(fj c r)&&bK Γ a v.1&&bK Γ b r)=Z7):∃l r p,e=.Compare l [c] [r] p/\z57 c=Z7/\fj c r=Z6/\bK Γ a l=Z7/\bK Γ b r=true:=by obtain⟨⟨l,o,rs⟩,g,i⟩:=aJ h;obtain⟨p,rfl⟩:=sM g;obtain⟨j,d⟩:=aD i;obtain⟨r,hr,f⟩:=aJ d;cases xn j;cases eU hr;obtain⟨d,f,k,m⟩:=bJ f;exact⟨l,r,p,rfl,d,cG f,k,m⟩
theorem T5 {d:Bool}(h:((pV e).any λv=>decide (v.2.1=[if d then .IsNot else .Is])&&(bB v.2.2).any λr=>decide (iE r=Z9 .none)&&bK Γ a v.1)=Z7):∃l j b p,e=.Compare l [if d then .IsNot else .Is] [.Constant .none j b] p/\bK Γ a l=true:=by obtain⟨⟨l,o,rs⟩,f,g⟩:=aJ h;obtain⟨p,rfl⟩:=sM f;obtain⟨i,k⟩:=aD g;obtain⟨r,hr,c⟩:=aJ k;cases xn i;cases eU hr;obtain⟨c,m⟩:=aD c;obtain⟨j,b,rfl⟩:=yx (xn c);exact⟨l,j,b,p,rfl,m⟩
theorem T6 (h:z2n i=Z7):rH i:=λo v=>by cases i<;>first|rfl|cases h
theorem yP (G:We v)(Y:We c)(ie:We x):∀Γ Z CX X r e,lA Γ Z CX X r->bK Γ (.lc J L g t en v c x) e=Z7->PE X e (wE Z (.lc J L g t en v c x))/\∀{y:Str} {w d:Pos} {i:Nat},X.N.Nodup->X.N[i]?=Z9 y->Loc X.env.scope y->Sto X y->PS X (.Assign [.Name y w] e d) (hZ (wE Z (.lc J L g t en v c x)) (lK i)):=by
 intro Γ Z CX X r e k h;obtain⟨m,h⟩:=aD h;obtain⟨⟨el,gs,a⟩,hv,o⟩:=aJ h;obtain⟨pos,rfl⟩:=yB hv;obtain⟨⟨M,p,q,ka⟩,hg,o⟩:=aJ o;cases eU hg;obtain⟨h0,j,h7,A,o⟩:=fG o;obtain⟨h1,h3,h5,O⟩:=bJ h0;cases xr h1;have B:=HX k.ck.hN k.ck.hs h3;have P:=λC b s H=>k.ck.blk B.kind (xn h5) C b s H;have Q:∀C b s H,lA (AI Γ a g) {Z with E:=λ_ _ _=>False,xf:=Z8} CX (blk X a g C b s H) r:=λC b s H=>⟨⟨k.kk,k.mm,k.fn,k.me,k.cl,k.gi,k.hf,k.md,k.mq⟩,P C b s H,k.room,λR σ H s e s' I z=>(k.KS _ _ _ _ _ z).elim,λf z=>(by cases z),k.KS⟩
 have S:PI X M p (AF X.K en (wE Z v)):=by
  cases en with
  |false=>exact TY (G.E Γ Z CX X r _ k j)
  |true=>obtain⟨t1,j⟩:=aD j;obtain⟨⟨f,es⟩,hf,j⟩:=aJ j;obtain⟨_,_,rfl⟩:=hU hf;obtain⟨D,u2,u3⟩:=aS j;obtain⟨y,hy,u5⟩:=aJ u3;cases eU hy;obtain⟨u6,u4⟩:=aD u5;have D:=eqB D;subst D;obtain⟨_,_,_,rfl⟩:=Eo t1;obtain⟨g1,g2,g3,g4⟩:=k.ck.blt u2;exact TZ g2 g1 (cG u6) (G.E Γ Z CX X r _ k u4)
 have ht:∀C b s H,oB (blk X a g C b s H) q (wT {Z with E:=λ_ _ _=>False,xf:=Z8} c):=λC b s H=>by
  rcases q with _|⟨y,_|⟨z,l⟩⟩
  .have :c=.nil:=by cases c<;>first|rfl|cases A
   subst this;exact HY
  .exact HZ (Y.T _ _ CX _ r _ (Q C b s H) A).1
  .cases A
 have u:∀C b s H,PG (blk X a g C b s H) M (tDG X.K t):=λC b s H=>sP (P C b s H) h7;have U:∀C b s H,PE (blk X a g C b s H) el (wE {Z with E:=λ_ _ _=>False,xf:=Z8} x):=λC b s H=>ie.E _ _ CX _ r _ (Q C b s H) o;have F:=z99 (pos:=pos) (k.ck.calm m) B S u ht U (qD O _);rw[<-k.kk]at F;refine⟨F,λ{y w d i} nd V l2 W=>?_⟩;cases hb:(X.env.blockKind==.function&&X.env.kindOf y==Z9 .local&&w.line==pos.line&& !(a.names.any λ(n,k)=>n==y&&(k==.local||k==.cell)))with
 |false=>exact z9t nd V l2 F (by rw[vD,hb]) W
 |true=>
  have hl:X.env.scope.names.lookup y=Z9 .local:=by simp at hb;exact hb.1.1.2
  have:=z6h (spos:=d) (k.ck.calm m) nd V hl W.2 B S u ht U (by rw[vD,hb]) (qD O _);rw[<-k.kk]at this;exact this
theorem cN (w:W):We w:=by
 induction w with
 |aY c=>exact We.x (λΓ Z CX X r e k h=>by show PE X e (tD Z.K (aE Z.Κ Z.Φ c));rw[k.kk];exact(all c).E Γ.g X r e k.ck h) (λ_ _=>rfl) λ_ _=>rfl
 |raw i=>exact We.x (λΓ Z CX X r e k h=>by obtain⟨x,p,rfl,h⟩:=gX h;obtain⟨h1,h2,h3,h4⟩:=k.ck.aK h;exact nW h1 h2 h3 h4) (λ_ _=>rfl) λ_ _=>rfl
 |bin op a b ia ib=>exact We.x (λΓ Z CX X r e k h=>by obtain⟨v,hv,h9⟩:=aJ h;obtain⟨p,rfl⟩:=Eb hv;obtain⟨h1,h2,h3,h4⟩:=bJ h9;cases xn h1;show PE X _ (gK (oS Z.K (cE _)) _ _);rw[k.kk];exact B7 (Ij _ h2) (ia.E Γ Z CX X r _ k h3) (ib.E Γ Z CX X r _ k h4)) (λ_ _=>rfl) λ_ _=>rfl
 |tup xs ia=>exact We.x (λΓ Z CX X r e k h=>by obtain⟨v,hv,h9⟩:=aJ h;obtain⟨_,_,rfl⟩:=yy hv;exact Ht (ia.A Γ Z CX X r _ k h9)) (λ_ _=>rfl) λ_ _=>rfl
 |lst xs ia=>exact We.x (λΓ Z CX X r e k h=>by obtain⟨v,hv,h9⟩:=aJ h;obtain⟨_,rfl⟩:=Ec hv;exact Ca (ia.A Γ Z CX X r _ k h9)) (λ_ _=>rfl) λ_ _=>rfl
 |dR=>exact We.x (λΓ Z CX X r e k h=>by obtain⟨⟨a,b⟩,hv,h9⟩:=aJ h;obtain⟨_,rfl⟩:=sN hv;obtain⟨h1,h2⟩:=aD h9;cases eK h1;cases eK h2;exact HF) (λ_ _=>rfl) λ_ _=>rfl
 |ix a b ia ib=>exact We.x (λΓ Z CX X r e k h=>by obtain⟨v,hv,h9⟩:=aJ h;obtain⟨_,rfl⟩:=sO hv;obtain⟨h1,h2,h3⟩:=aS h9;show PE X _ (gK (lY Z.K) _ _);rw[k.kk];exact Ci (Ir k.ck.hu) (ia.E Γ Z CX X r _ k h2) (ib.E Γ Z CX X r _ k h3) (C' h1)) (λ_ _=>rfl) λ_ _=>rfl
 |vH a b ia ib=>exact We.x (λΓ Z CX X r e k h=>by obtain⟨v,hv,h9⟩:=aJ h;obtain⟨_,rfl⟩:=sO hv;obtain⟨h1,h2,h3⟩:=aS h9;exact Ov (iu (tj (by decide) _) k.ck.hu) (ia.E Γ Z CX X r _ k h2) (ib.E Γ Z CX X r _ k h3) (T6 h1)) (λ_ _=>rfl) λ_ _=>rfl
 |cP j as ia=>exact We.x (λΓ Z CX X r e k h=>by
  obtain⟨⟨x,es⟩,hv,h9⟩:=aJ h;obtain⟨_,_,rfl⟩:=hU hv;obtain⟨h1,h2,h3,h4⟩:=bJ h9;obtain⟨yF,h4⟩:=aD h4;obtain⟨y,es,rfl⟩:=yu h4;obtain⟨g1,g2⟩:=k.ck.gl h1;obtain⟨sp,f,fd,ps,n,c1,c2,c3,c4,c5,c6⟩:=k.fn j _ _ (eqB h2);obtain⟨s1,s2⟩:=c8.symm.trans (KU h3) |> az.mp;have ee:wE Z (.cP j as)=rC sp [] Z.E (wA Z as):=by show(match Z.fn[j]? with|some sp=>rC sp [] Z.E (wA Z as)|none=>qL)=_;rw[c1]
  rw[ee];exact zd4 c3 (k.rm yF c2) g1 c4 c5 c6 .nil k.px (ia.A Γ Z CX X r _ k h3) g2 (dW (cG s1)) (oD s2)) (λ_ _=>rfl) λ_ _=>rfl
 |tp c=>exact We.t (λΓ Z CX X r e k h=>by show PT X e (dS Z.K (dF Z.Κ Z.Φ c))/\(_->PW X e (dS Z.K (dF Z.Κ Z.Φ c)));rw[k.kk];exact(all c).T Γ.g X r e k.ck h) (λ_ _=>rfl) λ_ _=>rfl
 |tc op a b ia ib=>exact We.t (λΓ Z CX X r e k h=>by obtain⟨_,_,_,rfl,h2,h3,h4,h5⟩:=Fb h;refine⟨?_,λ⟨_,_,_,z⟩=>by cases z⟩;show PT X _ (qY (gK (uW Z.K (mB (cmpD _))) _ _));rw[k.kk];exact B9 (C7 k.ck.hu _ h2) (ia.E Γ Z CX X r _ k h4) (ib.E Γ Z CX X r _ k h5) h3) (λ_ _=>rfl) λ_ _=>rfl
 |ti ng a ia=>exact We.t (λΓ Z CX X r e k h=>by
  obtain⟨_,_,_,_,rfl,h2⟩:=T5 h;have ha:=ia.E Γ Z CX X r _ k h2;refine⟨?_,λ⟨_,_,_,z⟩=>by cases z⟩;cases ng with
  |true=>exact G' (NP ha)
  |false=>exact G' (NO ha)) (λ_ _=>rfl) λ_ _=>rfl
 |vI ne a b ia ib=>exact We.t (λΓ Z CX X r e k h=>by obtain⟨_,_,_,rfl,h2,h3,h4,h5⟩:=Fb h;refine⟨?_,λ⟨_,_,_,z⟩=>by cases z⟩;show PT X _ (qY (gK (qJ Z.K ne) _ _));rw[k.kk];exact B9 (KP k.ck.hu ne) (ia.E Γ Z CX X r _ k h4) (ib.E Γ Z CX X r _ k h5) h3) (λ_ _=>rfl) λ_ _=>rfl
 |yM a ia=>exact We.t (λΓ Z CX X r e k h=>by have h:(plainT e&&bK Γ a e)=true:=h;obtain⟨h1,h2⟩:=aD h;refine⟨?_,λ⟨_,_,_,z⟩=>by subst z;cases h1⟩;show PT X _ (KR Z.K _);rw[k.kk];exact z9j (ia.E Γ Z CX X r _ k h2) (JO h1 _)) (λ_ _=>rfl) λ_ _=>rfl
 |not a ia=>exact We.t (λΓ Z CX X r e k h=>by obtain⟨⟨o,x⟩,hv,h9⟩:=aJ h;obtain⟨p,rfl⟩:=sJ hv;obtain⟨h1,h2⟩:=aD h9;cases xn h1;exact⟨He (ia.T Γ Z CX X r _ k h2).1,λ⟨_,_,_,z⟩=>by cases z⟩) (λ_ _=>rfl) λ_ _=>rfl
 |qK a b ia ib=>exact We.t (λΓ Z CX X r e k h=>by
  obtain⟨⟨o,xs,p⟩,hv,h9⟩:=aJ h;cases mJ hv;obtain⟨h1,h2⟩:=aD h9;cases xn h1;rcases yE h2 with⟨x,y,rfl,h3,h4⟩|⟨x,y,z,t,rfl,h3,h4⟩
  .have w:=BO (pos:=p) (ia.T Γ Z CX X r _ k h3).1 (Hd (ib.T Γ Z CX X r _ k h4).1);exact⟨w.pt,λ_=>w⟩
  .have w:=BO (pos:=p) (ia.T Γ Z CX X r _ k h3).1 ((ib.T Γ Z CX X r _ k h4).2 ⟨_,_,_,rfl⟩);exact⟨w.pt,λ_=>w⟩) (λ_ _=>rfl) λ_ _=>rfl
 |gi j=>exact We.x (λΓ Z CX X r e k h=>by
  obtain⟨x,p,rfl,h1⟩:=gX h;obtain⟨h2,h3⟩:=aD h1;obtain⟨g1,g2⟩:=k.ck.gl h2;obtain⟨n,t,e1,e2⟩:=k.gi j x (eqB h3);have ee:wE Z (.gi j)=λ_ H Q=>Q (.int n) H:=by show(match Z.gi[j]? with|some n=>(λ_ H Q=>Q (.int n) H:TE)|none=>qL)=_;rw[e1]
  rw[ee];exact λpins s σ H Q I h=>zf3 I g1 e2 ⟨.int n,H,I,⟨t,rfl⟩,h⟩ g2) (λ_ _=>rfl) λ_ _=>rfl
 |mM a b ia ib=>exact We.x (λΓ Z CX X r e k h=>by obtain⟨v,hv,h9⟩:=aJ h;obtain⟨_,rfl⟩:=sO hv;obtain⟨h1,h2,h3⟩:=aS h9;show PE X _ (gK (rK Z.K) _ _);rw[k.kk];exact Ci HQ (ia.E Γ Z CX X r _ k h2) (ib.E Γ Z CX X r _ k h3) (C' h1)) (λ_ _=>rfl) λ_ _=>rfl
 |yN ne a b ia ib=>exact We.x (λΓ Z CX X r e k h=>by obtain⟨_,_,_,rfl,h2,h3,h4,h5⟩:=Fb h;show PE X _ (gK (qJ Z.K ne) _ _);rw[k.kk];exact Hq (KP k.ck.hu ne) (ia.E Γ Z CX X r _ k h4) (ib.E Γ Z CX X r _ k h5) h3) (λ_ _=>rfl) λ_ _=>rfl
 |AH p a ia=>exact We.x (λΓ Z CX X r e k h=>by
  obtain⟨⟨ks,vs⟩,hv,h9⟩:=aJ h;obtain⟨_,rfl⟩:=sN hv;obtain⟨k1,hk,h9⟩:=aJ h9;obtain⟨v1,hx,h9⟩:=aJ h9;cases eU hk;cases eU hx;obtain⟨g1,h1⟩:=aD h9;obtain⟨y1,e1,g1⟩:=aJ g1;cases e1;have ky:∀{y:Expr} {p:Str},chkE Γ.g (.str p) y=Z7->PE X y (tD Z.K (aE Z.Κ Z.Φ (.str p))):=λ{y p} g=>by rw[k.kk];exact(all (.str p)).E Γ.g X r y k.ck g
  exact zmc (zg1 (ky g1) (ia.E Γ Z CX X r _ k h1) Ow) rfl rfl (by simp) (by show 1<=15;decide)) (λ_ _=>rfl) λ_ _=>rfl
 |rp a ia=>exact We.x (λΓ Z CX X r e k h=>by obtain⟨yF,h⟩:=aD h;obtain⟨⟨x,es⟩,hv,h9⟩:=aJ h;obtain⟨_,_,rfl⟩:=hU hv;obtain⟨h1,h2,h3⟩:=aS h9;obtain⟨y,hy,h4⟩:=aJ h3;cases eU hy;obtain⟨h4,h5⟩:=aD h4;have h1:x=("repr":Str):=eqB h1;subst h1;obtain⟨g1,g2,g3,g4⟩:=k.ck.blt h2;show PE X _ (jF (AG Z.K) _);rw[k.kk];exact uL (T2 (k.room yF)) g2 (show df "repr"=_ by decide+kernel) (cZ (ia.E Γ Z CX X r _ k h5) iR (cG h4)) (by rw[c8,h4];rfl) g1 g4 g3) (λ_ _=>rfl) λ_ _=>rfl
 |ab a ia=>exact We.x (λΓ Z CX X r e k h=>by obtain⟨⟨x,es⟩,hv,h9⟩:=aJ h;obtain⟨_,_,rfl⟩:=hU hv;obtain⟨h1,h2,h3⟩:=aS h9;obtain⟨y,hy,h4⟩:=aJ h3;cases eU hy;obtain⟨h4,h5⟩:=aD h4;have h1:x=("abs":Str):=eqB h1;subst h1;obtain⟨g1,g2,g3,g4⟩:=k.ck.blt h2;show PE X _ (jF sY _);exact uL T1 g2 (show df "abs"=_ by decide+kernel) (cZ (ia.E Γ Z CX X r _ k h5) iR (cG h4)) (by rw[c8,h4];rfl) g1 g4 g3) (λ_ _=>rfl) λ_ _=>rfl
 |yO a ia=>exact We.x (λΓ Z CX X r e k h=>by obtain⟨⟨x,es⟩,hv,h9⟩:=aJ h;obtain⟨_,_,rfl⟩:=hU hv;obtain⟨h1,h2,h3⟩:=aS h9;obtain⟨y,hy,h4⟩:=aJ h3;cases eU hy;obtain⟨h4,h5⟩:=aD h4;have h1:x=("tuple":Str):=eqB h1;subst h1;obtain⟨g1,g2,g3,g4⟩:=k.ck.blt h2;show PE X _ (jF (rAgg Z.K "tuple") _);rw[k.kk];exact zW IJ g2 (show df "tuple"=_ by decide+kernel) (cZ (ia.E Γ Z CX X r _ k h5) iR (cG h4)) (by rw[c8,h4];rfl) g1 g4 g3) (λ_ _=>rfl) λ_ _=>rfl
 |mO a ia=>exact We.x (λΓ Z CX X r e k h=>by obtain⟨⟨x,es⟩,hv,h9⟩:=aJ h;obtain⟨_,_,rfl⟩:=hU hv;obtain⟨h1,h2,h3⟩:=aS h9;obtain⟨y,hy,h4⟩:=aJ h3;cases eU hy;obtain⟨h4,h5⟩:=aD h4;have h1:x=("list":Str):=eqB h1;subst h1;obtain⟨g1,g2,g3,g4⟩:=k.ck.blt h2;show PE X _ (jF (rAgg Z.K "list") _);rw[k.kk];exact zW QG g2 (show df "list"=_ by decide+kernel) (cZ (ia.E Γ Z CX X r _ k h5) iR (cG h4)) (by rw[c8,h4];rfl) g1 g4 g3) (λ_ _=>rfl) λ_ _=>rfl
 |lc nt js N' t en it c x ii ic ie=>exact We.x (λΓ Z CX X r e k h=>(yP ii ic ie Γ Z CX X r e k h).1) (λ_ _=>rfl) λ_ _=>rfl
 |nil=>exact⟨λ_ _ _ _ _ _ _ h=>ff rfl h,λΓ Z CX X r es k h=>by cases eK h;exact iR,λ_ _ _ _ _ _ _ h=>ff rfl h⟩
 |cons a q ia iq=>exact⟨λ_ _ _ _ _ _ _ h=>ff rfl h,λΓ Z CX X r es k h=>by
  cases es with
  |nil=>cases h
  |cons e es=>obtain⟨h1,h2,h3⟩:=aS h;exact cZ (ia.E Γ Z CX X r _ k h2) (iq.A Γ Z CX X r _ k h3) (cG h1),λ_ _ _ _ _ _ _ h=>ff rfl h⟩
end
theorem T7 (outer:List Env)(H:Hp)(s:ay)(e:Value)(a:ay):¬CXE P w base outer H s (λ_ _ _=>False) e a:=λz=>z
def AJ (d:Addr)(o:Obj)(kvs:List (Key×V)):It:=⟨λi H=>H d=Z9 (.frz o (.dK kvs))/\i<kvs.length,λi H x H'=>∃k v,kvs[i]?=Z9 (k,v)/\x=kV k/\H'=H,λi H=>H d=Z9 (.frz o (.dK kvs))/\kvs.length<=i⟩
theorem T8 (a:s.heap.IsKeyIter c d i n ep)(h:Q (.ref c) s):wpAny (model prog w) A (qx (.ref c)) Q E s:=by have b:=a.typeIs;refine vj b PySem.F.slot_dict_keyiterator_iter (gf PySem.F.slot_dict_keyiterator_iter b PySem.F.entry_dict_keyiterator_iter ?_ (PySem.F.args_dict_keyiterator_iter_1 _));exact ar ⟨_,rfl,"dict_keyiterator",_,b,PySem.F.slot_dict_keyiterator_next.lookup,h⟩
theorem zdk {K:Z5}(hd:o.data=.dict es ep):
  Turn P w K (.Name y pos) (AJ d o c) [g] g (λi h=>h.IsKeyIter g d i c.length ep) where
 mem:=by simp
 obj:=λi h st b hb=>by
  have e:b=g:=by simpa using hb
  subst e;obtain⟨o,ho,_,hd⟩:=st;exact⟨o,ho,λv z=>by rw[hd]at z;cases z⟩
 keep:=λi h R st k=>by obtain⟨o,ho,r⟩:=st;exact⟨o,k g (by simp) _ ho,r⟩
 item:=by
  intro X x A B S i m s T H E I hf st C;subst x A B;obtain⟨j,D⟩:=C;obtain⟨U,rel,l,n,F⟩:=z48 I j hd;have a:=rel.length;obtain⟨u,hu,ru⟩:=DN rel (i:=i) (k:=c[i].1) (v:=c[i].2) (by simp[D]);refine wpAny_pyNext_dict_item (a▸st) l hu λkey R p f V=>?_;obtain⟨t,G,Y,J,L,M⟩:=hf g (by simp);obtain⟨o2,N,O,Q⟩:=id f;refine⟨_,rfl,zd9 N O Q (by decide) ⟨kV c[i].1,H,I.turned (λb q hb e=>(V.2 b hb).trans e) t G J L M,DO p,⟨c[i].1,c[i].2,by simp[D],rfl,rfl⟩,by rw[a];exact f,λb hb=>?_⟩⟩;have e:b=g:=by simpa using hb
  subst e;exact t
 done:=by intro X x A B S i m s T H E I hf st C;subst x A B;obtain⟨j,D⟩:=C;obtain⟨U,rel,l,n,F⟩:=z48 I j hd;have a:=rel.length;obtain⟨t,G,Y,J,L,M⟩:=hf g (by simp);exact wpAny_pyNext_dict_end (I.ok.hd S) (a▸st) l (qv (by omega)) λR Z=>⟨rfl,I.turned (λb o hb e=>Z b o hb e) t G J L M⟩
 self:=λ_ _ _ _ _ st h=>T8 st h
section
variable {X:Cx}
def T9 (i:Nat):TI:=λσ H R=>∃d o kvs es ep,σ[i]?=Z9 (Z9 (.ref d))/\H d=Z9 (.frz o (.dK kvs))/\o.data=.dict es ep/\R (AJ d o kvs) H
theorem T' (hN:X.N[i]?=Z9 x)(r:Vis X.env.scope x)(h:YC x)(j:(x==("__classdict__":Str))=Z6):PI X (.Name y tp) (.Name x p) (T9 i):=by
 rintro a s t H R I ⟨d,o,c,es,ep,k,l,hd,q⟩
 refine aN (nW hN r h j a s t H (λv m=>v=.ref d/\m=H) I ⟨_,k,rfl,rfl⟩) λov E u=>?_;obtain⟨z,m,g,w,A,B⟩:=u;subst A B;cases w;obtain⟨C,rel,n,f,D⟩:=z48 g l hd;refine wpAny_pyIter_dict f n ⟨_,[_],_,AJ d o c,m,rfl,g.kept λb q e=>ah _ e,zdk hd,?_,λb hb=>?_,q⟩
 .rw[show c.length=C.length from rel.length];exact⟨_,ax _ rfl,rfl,rfl⟩
 .have e:b=_:=ak.mp hb;subst e;exact g.eN (af _) (g.hok.fresh (af _))
def AK (D:Ends)(d:Addr)(o:Obj)(kvs:List (Key×V)):Ends:=⟨λσ H=>H d=Z9 (.frz o (.dK kvs))/\D.nx σ (upd H d (.dK kvs)),λv H=>H d=Z9 (.frz o (.dK kvs))/\D.rt v (upd H d (.dK kvs)),λσ H=>H d=Z9 (.frz o (.dK kvs))/\D.bk σ (upd H d (.dK kvs)),λσ H=>H d=Z9 (.frz o (.dK kvs))/\D.ct σ (upd H d (.dK kvs))⟩
def KW (i:Nat)(g:TG)(tb:TS):TS:=λD σ H=>∃d kvs,σ[i]?=Z9 (Z9 (.ref d))/\H d=Z9 (.dK kvs)/\∀o,fB (λ_ H R=>R (AJ d o kvs) H) g tb (AK D d o kvs) σ (upd H d (.frz o (.dK kvs)))
theorem zmx (hN:X.N[i]?=Z9 x)(hv:Vis X.env.scope x)(hdb:YC x)(hcd:(x==("__classdict__":Str))=Z6)(hp:iz (model X.prog X.w) X.A X.env X.xe)(hc:X.calm=Z7)(hg:PG X (.Name y tp) g)(hb:PSs X body tb):
  PS X (.For (.Name y tp) (.Name x p) body [] pos) (KW i g tb):=by
 rintro pins s σ H D I ⟨d,kvs,hσ,hH,q⟩
 obtain⟨_,_,vs,_,o,uX,ep,ho,_,sE,_⟩:=I.hok d _ hH;refine aN (z47 hp hc (T' hN hv hdb hcd) hg hb (λ_=>rfl) pins s σ _ (AK D d o kvs) (I.freeze hH ho) ⟨d,o,kvs,uX,ep,hσ,aO,sE,q o⟩) λfl s' zz=>?_;cases fl with
 |next=>obtain⟨σ',H',I',hf,q'⟩:=zz;exact⟨σ',_,Inv.gW I hH I' hf,q'⟩
 |brk=>obtain⟨σ',H',I',hf,q'⟩:=zz;exact⟨σ',_,Inv.gW I hH I' hf,q'⟩
 |cont=>obtain⟨σ',H',I',hf,q'⟩:=zz;exact⟨σ',_,Inv.gW I hH I' hf,q'⟩
 |ret u=>obtain⟨v,σ',H',I',r,hf,q'⟩:=zz;exact⟨v,σ',_,Inv.gW I hH I' hf,r,q'⟩
def Fe (i:Nat)(g:TG)(tb:TS):TS:=λD σ H=>∃d kvs,σ[i]?=Z9 (Z9 (.ref d))/\H d=Z9 (.dK kvs)/\∀o,fB (λ_ H R=>R (An d o kvs) H) g tb (AK D d o kvs) σ (upd H d (.frz o (.dK kvs)))
theorem zmd (hN:X.N[i]?=Z9 x)(E:Vis X.env.scope x)(t:YC x)(y:(x==("__classdict__":Str))=Z6)(b:(F.endLine==cp.line)=Z7)(G:iz (model X.prog X.w) X.A X.env X.xe)(J:X.calm=Z7)(K:PG X (.Tuple h L tp) g)(hb:PSs X j M):
  PS X (.For (.Tuple h L tp) (.Call (.Attribute (.Name x p) "items" F) [] [] cp) j [] pos) (Fe i g M):=by
 rintro k s O H D I ⟨d,l,z,f,q⟩
 obtain⟨_,_,Q,_,o,B,ep,ho,_,m,_⟩:=I.hok d _ f;refine aN (z47 G J (zfp hN E t y b) K hb (λ_=>rfl) k s O _ (AK D d o l) (I.freeze f ho) ⟨d,o,l,B,ep,z,aO,m,q o⟩) λP R n=>?_;cases P with
 |next=>obtain⟨a,C,c,hf,e⟩:=n;exact⟨a,_,Inv.gW I f c hf,e⟩
 |brk=>obtain⟨a,C,c,hf,e⟩:=n;exact⟨a,_,Inv.gW I f c hf,e⟩
 |cont=>obtain⟨a,C,c,hf,e⟩:=n;exact⟨a,_,Inv.gW I f c hf,e⟩
 |ret u=>obtain⟨v,a,C,c,r,hf,e⟩:=n;exact⟨v,a,_,Inv.gW I f c hf,r,e⟩
end
section
open Builtin
open Builtin.ObjectAttr
end
def Ff (_:Cx)(_:XK):Prop:=True
inductive WS where
 |nil|seq (a b:WS)|asg (i:Nat) (e:W)|put (o k v:W)|app (o v:W)|ext (o v:W)|yQ (o:W)|fork (t i:Nat) (b:WS)|jZ (t:Tg) (i:Nat) (b:WS)|ret (e:W)|aZ (c:W) (a b:WS)|aV (t:Tg) (it:C) (b:WS)|yR (s:S)|iK (t:Tg) (it:W) (b:WS)|gZ (i:Nat) (it:W) (b:WS)|j' (i:Nat) (n:W) (b:WS)
 deriving Inhabited
def Fg:W->Bool
 |.aY c=>!lX c
 |.lc _ _ _ _ _ _ _ _=>Z7
 |_=>Z6
theorem Ua (k:Cok f Κ Φ X r)(F:jR f i x=Z7)(hn:lX c=Z6)(a:chkE f c v=Z7):PS X (.Assign [.Name x px] v pos) (hZ (tD X.K (aE Κ Φ c)) (lK i)):=by
 obtain⟨h,o,j⟩:=k.loc F;have nd:X.N.Nodup:=k.hN▸k.nd;cases u:z25 v with
 |false=>exact xD nd h o ((all c).E f X r _ k a) u j
 |true=>
  cases v<;>first|(cases u;done)|skip
  .rename_i M O s p;cases g:(X.env.blockKind==.function&&X.env.kindOf x==Z9 .local&&px.line==p.line&& !(s.names.any λ(n,k)=>n==x&&(k==.local||k==.cell)))with
   |false=>exact z9t nd h o ((all c).E f X r _ k a) (by rw[vD,g]) j
   |true=>
    obtain⟨P,Q,R,S,it,b,l,rfl⟩:=JT hn a;obtain⟨G,t,T,I,m,w,e,y,h0,z,A,B,C,hs,d⟩:=sC (all it) (all b) (all l) k a;cases e;have J:X.env.scope.names.lookup x=Z9 .local:=by simp at g;exact g.1.1.2
    exact PS.imp (z6h (k.calm d) nd h J j.2 y z A B C (by rw[vD,g]) hs) λD L H q=>(zcq (pos:=p) (k.calm d) y h0 z A B C hs).2 L H _ q
  .exact(JU a).elim
  .exact(JV a).elim
def rz:WS->Bool
 |.seq a b=>rz a||rz b
 |.aZ _ a b=>rz a||rz b
 |.fork _ _ _=>Z7
 |.jZ _ _ _=>Z7
 |.aV _ _ _=>Z7
 |.iK _ _ _=>Z7
 |.gZ _ _ _=>Z7
 |.j' _ _ _=>Z7
 |.yR _=>Z7
 |_=>Z6
mutual
def wS:Wc->WS->TS
 |_,.nil=>Hg
 |Z,.seq a b=>wM (wS Z a) (wS Z b)
 |Z,.asg i e=>hZ (wE Z e) (lK i)
 |Z,.put o k v=>xX (wE Z o) (wE Z k) (wE Z v)
 |Z,.app o v=>pP (xt Z.K "list" zT (wE Z o) (lP (wE Z v) fC))
 |Z,.ext o v=>pP (xt Z.K "list" zU (wE Z o) (lP (wE Z v) fC))
 |Z,.yQ o=>pP (rL Z.K "dict" AE (wE Z o))
 |Z,.fork t i b=>KW i (lK t) (wS Z b)
 |Z,.jZ t i b=>Fe i (tDG Z.K t) (wS Z b)
 |Z,.ret e=>wN (wE Z e)
 |Z,.aZ c a b=>wO (wT Z c) (wS Z a) (wS Z b)
 |Z,.aV t it b=>fB (tDW Z.K (evW Z.Κ Z.Φ it)) (tDG Z.K t) (wS Z b)
 |Z,.yR s=>tDS Z.K (aW Z.Κ Z.Φ s)
 |Z,.iK t it b=>fB (wU Z.K (wE Z it)) (tDG Z.K t) (wS Z b)
 |Z,.gZ i it b=>fB (wU Z.K (wE Z it)) (lK i) (wS Z b)
 |Z,.j' i n b=>fB (Hn (lP (wE Z n) fC)) (lK i) (wS Z b)
end
mutual
def Fh:Gw->WS->Stmt->Bool
 |Γ,.asg i e,s=>(xQ s).any λu=>(bB u.1).any λx=>kP Γ.g (.nm i) x&&(!z25 u.2||Fg e)&&bK Γ e u.2
 |Γ,.put o k v,s=>(xQ s).any λu=>(bB u.1).any λx=>(gQ x).any λw=>!z25 u.2&&bK Γ o w.1&&bK Γ k w.2&&bK Γ v u.2
 |Γ,.app o e,s=>(uU s).any λc=>(oO c).any λv=>((v.2.1==("append":Str))&&rT v.1&&v.2.2.2)&&bK Γ o v.1&&(bB v.2.2.1).any λy=>!isStar y&&bK Γ e y
 |Γ,.ext o e,s=>(uU s).any λc=>(oO c).any λv=>((v.2.1==("extend":Str))&&rT v.1&&v.2.2.2)&&bK Γ o v.1&&(bB v.2.2.1).any λy=>!isStar y&&bK Γ e y
 |Γ,.yQ o,s=>(uU s).any λc=>(oO c).any λv=>((v.2.1==("clear":Str))&&rT v.1&&v.2.2.2)&&bK Γ o v.1&&v.2.2.1.isEmpty
 |Γ,.fork t i b,s=>Γ.g.cm&&(pW s).any λv=>kP Γ.g (.nm t) v.1&&gR (eT Γ.g i) v.2.1&&wkL Γ b v.2.2.1&&v.2.2.2.isEmpty
 |Γ,.jZ t i b,s=>Γ.g.cm&&(pW s).any λv=>(kP Γ.g t v.1&&(lW v.1).isSome)&&((oO v.2.1).any λm=>gR (eT Γ.g i) m.1&&(m.2.1==("items":Str))&&m.2.2.1.isEmpty&&m.2.2.2)&&wkL Γ b v.2.2.1&&v.2.2.2.isEmpty
 |Γ,.ret e,s=>(CU s).any λo=>o.any λv=>bK Γ e v
 |Γ,.aZ c a b,s=>(CV s).any λv=>qN Γ c v.1&&wkL Γ a v.2.1&&wkL Γ b v.2.2
 |Γ,.aV t it b,s=>Γ.g.cm&&(pW s).any λv=>(kP Γ.g t v.1&&z6 it v.1&&oK v.2.1)&&iF Γ.g it v.2.1&&wkL Γ b v.2.2.1&&v.2.2.2.isEmpty
 |Γ,.yR x,s=>oQ Γ.g x s
 |Γ,.iK t it b,s=>Γ.g.cm&&(pW s).any λv=>(kP Γ.g t v.1&&oK v.2.1)&&bK Γ it v.2.1&&wkL Γ b v.2.2.1&&v.2.2.2.isEmpty
 |Γ,.gZ i it b,s=>Γ.g.cm&&(pW s).any λv=>(kP Γ.g (.nm i) v.1&&oK v.2.1)&&bK Γ it v.2.1&&wkL Γ b v.2.2.1&&v.2.2.2.isEmpty
 |Γ,.j' i n b,s=>Γ.g.cm&&(pW s).any λv=>(kP Γ.g (.nm i) v.1&&oK v.2.1)&&((hP v.2.1).any λu=>(u.1==("range":Str))&&cb Γ.g u.1&&(bB u.2).any λy=>!isStar y&&bK Γ n y)&&wkL Γ b v.2.2.1&&v.2.2.2.isEmpty
 |_,_,_=>Z6
def wkL:Gw->WS->List Stmt->Bool
 |_,.nil,l=>l.isEmpty
 |Γ,.seq a b,l=>match l with|s::l=>Fh Γ a s&&wkL Γ b l|_=>Z6
 |_,_,_=>Z6
end
def Fi (_:Gw)(_:Cx)(_:Nat):Prop:=True
structure Wz (s:WS):Prop where
 R:∀(Γ:Gw) (Z:Wc) (X:Cx) (r:Nat) (st:Stmt),lA Γ Z (CXE X.prog X.w X.base) X r->Fi Γ X r->(rz s=Z7->iz (model X.prog X.w) X.A X.env X.xe)->(rz s=Z7->Ff X Z.E)->Fh Γ s st=Z7->PS X st (wS Z s)
 L:∀(Γ:Gw) (Z:Wc) (X:Cx) (r:Nat) (st:List Stmt),lA Γ Z (CXE X.prog X.w X.base) X r->Fi Γ X r->(rz s=Z7->iz (model X.prog X.w) X.A X.env X.xe)->(rz s=Z7->Ff X Z.E)->wkL Γ s st=Z7->PSs X st (wS Z s)
theorem Wz.x (h:∀Γ Z X r st,lA Γ Z (CXE X.prog X.w X.base) X r->Fi Γ X r->(rz s=Z7->iz (model X.prog X.w) X.A X.env X.xe)->(rz s=Z7->Ff X Z.E)->Fh Γ s st=Z7->PS X st (wS Z s))(a:∀Γ st,wkL Γ s st=Z6):Wz s:=⟨h,λΓ Z X r st k b c d z=>ff (a Γ st) z⟩
theorem pI (h:a=Z7):(a||b)=true:=by rw[h];rfl
theorem pJ (h:b=Z7):(a||b)=true:=by rw[h,vg]
theorem Ub (s:WS):Wz s:=by
 induction s with
 |nil=>exact⟨λ_ _ _ _ _ _ _ _ _ h=>ff rfl h,λd Z X r st k A l hr h=>by cases eK h;exact Hh⟩
 |seq a b ia M=>exact⟨λ_ _ _ _ _ _ _ _ _ h=>ff rfl h,λd Z X r st k A l hr h=>by
  cases st with
  |nil=>cases h
  |cons s st=>obtain⟨f,m⟩:=aD h;exact Hi (ia.R d Z X r _ k A (λz=>l (pI z)) (λz=>hr (pI z)) f) (M.L d Z X r _ k A (λz=>l (pJ z)) (λz=>hr (pJ z)) m)⟩
 |asg i e=>exact Wz.x (λd Z X r st k A l hr h=>by
  obtain⟨⟨ts,v⟩,C,D⟩:=aJ h;obtain⟨p,rfl⟩:=pC C;obtain⟨x,hx,O⟩:=aJ D;cases eU hx;obtain⟨f,m,G⟩:=aS O;obtain⟨y,q,rfl,I⟩:=gX f;obtain⟨Q,l2,S⟩:=k.ck.loc I;cases hc:z25 v with
  |false=>exact xD (k.ck.hN▸k.ck.nd) Q l2 ((cN e).E d Z _ X r _ k G) hc S
  |true=>
   have m:=m;rw[hc]at m;cases e<;>first|(cases m;done)|skip
   .rename_i c Uc;show PS X _ (hZ (tD Z.K (aE Z.Κ Z.Φ c)) (lK i));rw[k.kk];exact Ua k.ck I (cG m) G
   .exact(yP (cN _) (cN _) (cN _) d Z _ X r _ k G).2 (k.ck.hN▸k.ck.nd) Q l2 S) (λ_ _=>rfl)
 |put o y v=>exact Wz.x (λd Z X r st k A l hr h=>by obtain⟨⟨ts,v⟩,C,D⟩:=aJ h;obtain⟨p,rfl⟩:=pC C;obtain⟨x,hx,O⟩:=aJ D;cases eU hx;obtain⟨w,ho,N⟩:=aJ O;obtain⟨_,rfl⟩:=sO ho;obtain⟨f,m,G,H⟩:=bJ N;exact IG (iu (tj (by decide) _) k.ck.hu) ((cN o).E d Z _ X r _ k m) ((cN y).E d Z _ X r _ k G) ((cN _).E d Z _ X r _ k H) (uM (cG f) _ _ _)) (λ_ _=>rfl)
 |app o e=>exact Wz.x (λd Z X r st k A l hr h=>by obtain⟨c,C,D⟩:=aJ h;obtain⟨p,rfl⟩:=mK C;obtain⟨⟨x,n,es,b⟩,hm,O⟩:=aJ D;obtain⟨ap,cp,rfl,hb⟩:=jW hm;obtain⟨h0,P,N⟩:=aS O;obtain⟨f,m,G⟩:=aS h0;obtain⟨y,hy,H⟩:=aJ N;cases eU hy;obtain⟨H,I⟩:=aD H;have f:=eqB f;subst f;show PS X _ (pP (xt Z.K "list" zT _ _));rw[k.kk];exact lT (zgk PySem.F.plainAttrs_list PySem.F.slot_list_append PySem.F.type_list_append Cm ((cN o).E d Z _ X r _ k P) (cZ ((cN e).E d Z _ X r _ k I) iR (cG H)) (rM m) (za2 (by rw[c8,H];rfl) (show 1<20 by decide)) (hb.symm.trans G) (dW (cG H)) (oD rfl)) rfl) (λ_ _=>rfl)
 |ext o e=>exact Wz.x (λd Z X r st k A l hr h=>by obtain⟨c,C,D⟩:=aJ h;obtain⟨p,rfl⟩:=mK C;obtain⟨⟨x,n,es,b⟩,hm,O⟩:=aJ D;obtain⟨ap,cp,rfl,hb⟩:=jW hm;obtain⟨h0,P,N⟩:=aS O;obtain⟨f,m,G⟩:=aS h0;obtain⟨y,hy,H⟩:=aJ N;cases eU hy;obtain⟨H,I⟩:=aD H;have f:=eqB f;subst f;show PS X _ (pP (xt Z.K "list" zU _ _));rw[k.kk];exact lT (zgk PySem.F.plainAttrs_list PySem.F.slot_list_extend PySem.F.type_list_extend OT ((cN o).E d Z _ X r _ k P) (cZ ((cN e).E d Z _ X r _ k I) iR (cG H)) (rM m) (za2 (by rw[c8,H];rfl) (show 1<20 by decide)) (hb.symm.trans G) (dW (cG H)) (oD rfl)) rfl) (λ_ _=>rfl)
 |yQ o=>exact Wz.x (λd Z X r st k A l hr h=>by obtain⟨c,C,D⟩:=aJ h;obtain⟨p,rfl⟩:=mK C;obtain⟨⟨x,n,es,b⟩,hm,O⟩:=aJ D;obtain⟨ap,cp,rfl,hb⟩:=jW hm;obtain⟨h0,P,N⟩:=aS O;obtain⟨f,m,G⟩:=aS h0;cases eK N;have f:=eqB f;subst f;show PS X _ (pP (rL Z.K "dict" AE _));rw[k.kk];exact lT (zp1 PySem.F.plainAttrs_dict PySem.F.slot_dict_clear PySem.F.type_dict_clear TX ((cN o).E d Z _ X r _ k P) (rM m) (hb.symm.trans G)) rfl) (λ_ _=>rfl)
 |fork t i b M=>exact Wz.x (λd Z X r st k A l hr h=>by obtain⟨J,h⟩:=aD h;obtain⟨⟨Y,U,B,o⟩,C,D⟩:=aJ h;obtain⟨p,rfl⟩:=iI C;obtain⟨f,m,G,H⟩:=bJ D;cases eK H;obtain⟨y,q,rfl,I⟩:=gX f;obtain⟨z,q2,rfl,P⟩:=gX m;obtain⟨Q,l2,S⟩:=k.ck.loc I;obtain⟨v1,v2,v3,v4⟩:=k.ck.aK P;exact zmx v1 v2 v3 v4 (l rfl) (k.ck.calm J) (wQ (k.ck.hN▸k.ck.nd) Q l2 S) (M.L d Z X r _ k A (λ_=>l rfl) (λ_=>hr rfl) G)) (λ_ _=>rfl)
 |jZ t i b M=>exact Wz.x (λd Z X r st k A l hr h=>by obtain⟨J,h⟩:=aD h;obtain⟨⟨Y,U,B,o⟩,C,D⟩:=aJ h;obtain⟨p,rfl⟩:=iI C;obtain⟨f,m,G,H⟩:=bJ D;cases eK H;obtain⟨f,I⟩:=aD f;obtain⟨es,I⟩:=pb.mp I;obtain⟨_,_,rfl⟩:=yy I;obtain⟨x,_,_,_,rfl,P,V⟩:=JQ m;obtain⟨v1,v2,v3,v4⟩:=k.ck.aK P;show PS X _ (Fe i (tDG Z.K t) _);rw[k.kk];exact zmd v1 v2 v3 v4 V (l rfl) (k.ck.calm J) (sP k.ck f) (M.L d Z X r _ k A (λ_=>l rfl) (λ_=>hr rfl) G)) (λ_ _=>rfl)
 |ret e=>exact Wz.x (λd Z X r st k A l hr h=>by obtain⟨o,C,D⟩:=aJ h;obtain⟨p,rfl⟩:=yG C;obtain⟨v,rfl,O⟩:=aJ D;exact BS ((cN e).E d Z _ X r _ k O)) (λ_ _=>rfl)
 |aZ c a b ia M=>exact Wz.x (λd Z X r st k A l hr h=>by obtain⟨v,C,D⟩:=aJ h;obtain⟨p,rfl⟩:=yH C;obtain⟨f,m,G⟩:=aS D;exact Hj ((cN c).T d Z _ X r _ k f).1 (ia.L d Z X r _ k A (λz=>l (pI z)) (λz=>hr (pI z)) m) (M.L d Z X r _ k A (λz=>l (pJ z)) (λz=>hr (pJ z)) G)) (λ_ _=>rfl)
 |aV t U b M=>exact Wz.x (λd Z X r st k A l hr h=>by obtain⟨J,h⟩:=aD h;obtain⟨⟨Y,i,B,o⟩,C,D⟩:=aJ h;obtain⟨p,rfl⟩:=iI C;obtain⟨f,m,G,H⟩:=bJ D;obtain⟨I,P,N⟩:=aS f;cases eK H;show PS X _ (fB (tDW Z.K _) (tDG Z.K _) _);rw[k.kk];exact z47 (l rfl) (k.ck.calm J) ((all U).W d.g X r _ _ k.ck P m) (sP k.ck I) (M.L d Z X r _ k A (λ_=>l rfl) (λ_=>hr rfl) G) (qD N _)) (λ_ _=>rfl)
 |yR s=>exact Wz.x (λd Z X r st k A l hr h=>by show PS X _ (tDS Z.K _);rw[k.kk];exact(JW s).R d.g X r st k.ck (l rfl) h) (λ_ _=>rfl)
 |iK t U b M=>exact Wz.x (λd Z X r st k A l hr h=>by obtain⟨J,h⟩:=aD h;obtain⟨⟨Y,i,B,o⟩,C,D⟩:=aJ h;obtain⟨p,rfl⟩:=iI C;obtain⟨f,m,G,H⟩:=bJ D;obtain⟨I,N⟩:=aD f;cases eK H;show PS X _ (fB (wU Z.K _) (tDG Z.K _) _);rw[k.kk];exact z47 (l rfl) (k.ck.calm J) (Hm ((cN U).E d Z _ X r _ k m)) (sP k.ck I) (M.L d Z X r _ k A (λ_=>l rfl) (λ_=>hr rfl) G) (qD N _)) (λ_ _=>rfl)
 |gZ j U b M=>exact Wz.x (λd Z X r st k A l hr h=>by obtain⟨J,h⟩:=aD h;obtain⟨⟨Y,i,B,o⟩,C,D⟩:=aJ h;obtain⟨p,rfl⟩:=iI C;obtain⟨f,m,G,H⟩:=bJ D;obtain⟨I,N⟩:=aD f;cases eK H;obtain⟨y,q,rfl,I⟩:=gX I;obtain⟨Q,l2,S⟩:=k.ck.loc I;show PS X _ (fB (wU Z.K _) (lK _) _);rw[k.kk];exact z47 (l rfl) (k.ck.calm J) (Hm ((cN U).E d Z _ X r _ k m)) (wQ (k.ck.hN▸k.ck.nd) Q l2 S) (M.L d Z X r _ k A (λ_=>l rfl) (λ_=>hr rfl) G) (qD N _)) (λ_ _=>rfl)
 |j' j n b M=>exact Wz.x (λd Z X r st k A l hr h=>by obtain⟨J,h⟩:=aD h;obtain⟨⟨Y,i,B,o⟩,C,D⟩:=aJ h;obtain⟨p,rfl⟩:=iI C;obtain⟨f,m,G,H⟩:=bJ D;obtain⟨I,N⟩:=aD f;cases eK H;obtain⟨y,q,rfl,I⟩:=gX I;obtain⟨Q,l2,S⟩:=k.ck.loc I;obtain⟨⟨x,es⟩,hw,f9⟩:=aJ m;obtain⟨_,_,rfl⟩:=hU hw;obtain⟨f1,f2,f3⟩:=aS f9;obtain⟨u,hu,f4⟩:=aJ f3;cases eU hu;obtain⟨f4,f5⟩:=aD f4;have f1:=eqB f1;subst f1;obtain⟨g1,g2,g3,g4⟩:=k.ck.blt f2;exact z47 (l rfl) (k.ck.calm J) (Ho g1 g2 (cZ ((cN n).E d Z _ X r _ k f5) iR (cG f4)) (dW (cG f4))) (wQ (k.ck.hN▸k.ck.nd) Q l2 S) (M.L d Z X r _ k A (λ_=>l rfl) (λ_=>hr rfl) G) (qD N _)) (λ_ _=>rfl)
section
variable {P:cw}{w:World}{K:Z5}{mg:Str->Option Value}{base:Heap}
theorem zvx {Z:Wc}{st:Stmt}(Fu:∃dV oc od kV doc pm an cdv ct osl,fd=W.fnOf x qual (z1f st) (z0t st) (z0b st) dV kV doc pm an cdv ct/\K.lookup f=Z9 ⟨oc,od,.func fd,osl⟩/\W.codeIn K cdv qual=Z7)(Sc:FnScope Γ.g.N ps (z0b st))(hs:Γ.g.sc=z0b st)(hxc:Γ.g.xc=Z8)(dk:Dok Γ.g Z.Κ Z.Φ P w K mg base k)(zk:∀E,Zok Γ {Z with E:=E} (CXE P w base) P w K mg base k)(hxf:Γ.xf=Z8)(hc:wkL Γ s (z0t st)=Z7)
  (len:∀vs H Q E,sp vs H Q E->vs.length=ps.length) (run:∀vs H Q E,sp vs H Q E->wS {Z with E:=E} s {nx:=λ_ H'=>Q .bG H',rt:=Q} (start Γ.g.N vs) H):
  FnOk P w K mg base (CXE P w base) (k+1) f fd ps sp:=by
 obtain⟨dV,oc,od,kV,doc,pm,an,cdv,ct,osl,rfl,lk,hcd⟩:=Fu;exact ztb lk hcd Sc len λA outer s1 H vs Q E hr Ud=>⟨_,(Ub s).L Γ {Z with E:=E} (iA (CXE P w base) P w K mg base Γ.g.N qual (z0b st) f cdv A outer s1 H E) k _ ⟨zk E,⟨rfl,hs.symm,Sc.nd,λ_ _=>rfl,by rw[hs];exact Sc.kind,dk.free,dk.fns,dk.cst,λ_=>hr,λ_=>rfl,hr.units,λ_=>⟨rfl,rfl⟩,λ_ _ _ z=>(by cases z),hxc⟩,λ_=>hr,λ_ _ _ _ _ _ _ zz=>zz.elim,(λf z=>by have z:Γ.xf=Z9 f:=z;rw[hxf]at z;cases z),T7⟩ trivial (λ_=>PassesOwn.leaving) (λ_=>trivial) hc,run vs H Q E Ud⟩
theorem Fj {Z:Wc}{st:Stmt}(Fu:Fun K x qual st f fd)(Sc:FnScope Γ.g.N ps (z0b st))(hs:Γ.g.sc=z0b st)(hxc:Γ.g.xc=Z8)(dk:Dok Γ.g Z.Κ Z.Φ P w K mg base k)(zk:∀E,Zok Γ {Z with E:=E} (CXE P w base) P w K mg base k)(hxf:Γ.xf=Z8)(hc:wkL Γ s (z0t st)=Z7)
 (len:∀vs H Q E,sp vs H Q E->vs.length=ps.length) (run:∀vs H Q E,sp vs H Q E->wS {Z with E:=E} s {nx:=λ_ H'=>Q .bG H',rt:=Q} (start Γ.g.N vs) H):
 FnOk P w K mg base (CXE P w base) (k+1) f fd ps sp:=zvx ⟨_,Fu.ex⟩ Sc hs hxc dk zk hxf hc len run
end
abbrev NoB:Ad->Prop:=λ_=>False
abbrev AnyB:Ad->Prop:=λ_=>True
abbrev F0 (H:Hp):Fm:=⟨H,λ_=>True,λ_=>Z8,True⟩
section
variable {K:Z5}{H H':Hp}
theorem Rep.old (r:Rep K H B v d):Rep K H (fD (F0 H)) v d:=(Rep.there _ r).weak λa h=>by
 cases a with
 |none=>exact trivial
 |some a=>exact⟨λz=>h.2 z,trivial⟩
theorem yS (hl:σ.length=ρ.length)(h:∀(i:Nat) g (d:D),ρ[i]?=Z9 (Z9 (g,d))->g=G.od/\∃v B,σ[i]?=Z9 (Z9 v)/\Rep K H B v d):StOk K (F0 H) H σ ρ where
 ext:=Same.refl H
 aK:=λ_ _=>trivial
 own:=λa i e=>by cases e
 len:=hl
 sl:=λi g d e=>by obtain⟨rfl,v,B,e1,r⟩:=h i g d e;exact⟨v,e1,r.old⟩
end
section
variable {Z:Wc}{H:Hp}{σ:L2.St}{CC x dx d:Addr}{kvs:List (Key×V)}{es:bA}
end
namespace Ct
end Ct
def KY (K:Z5)(g:Str×Int):Option Int:=match W.nsIn K dm g.1 with
 |some (Z9 (.int n _))=>Z9 n
 |_=>Z8
def KXq (K:g9->Z5)(gs:List (Str×Int)):Prop:=∀P,gs.map (KY (K P))=gs.map λg=>Z9 g.2
theorem KXq_r:KXq=KXq:=rfl
theorem Ue {K:g9->Z5}(h:KXq K gs)(P:g9):∀g∈gs,∃t,W.nsIn (K P) dm g.1=Z9 (Z9 (.int g.2 t)):=λg hg=>by
 have e:=i8.mp (h P) g hg;unfold KY at e;split at e
 .rename_i n t q;cases e;exact⟨t,q⟩
 .cases e
end Mi
name_quick tkxq for Mi.KXq by Mi.KXq_r
namespace Mi
open PySem PySem.Spec PyProof.Rows L2
section
variable {K:Z5}
theorem Reps.mP (h:H l=Z9 (.lst d))(r:Reps K H NoB b c):Reps K (upd H l (.lst f)) NoB b c:=
 Reps.keep (λa o e z=>by
  rw[aA]
  .exact e
  .rintro rfl
   rw[h]at e;cases e;exact z.elim id id) (λ_ z=>z) _ r
theorem zl8 (r:Rep K H B v d)(b:i<σ.length)
  (q:∀a w,a.length=σ.length->a[i]?=Z9 (Z9 w)->Rep K H AnyB w d->(∀j,j≠i->a[j]?=σ[j]?)->Q a H):tDG K (.nm i) v σ H Q:=by
 refine⟨bc σ.length Z8,F0 H,(.od,d),(bc σ.length Z8).set i (Z9 (z17 (.od,d))),yS (by rw[cq]) λj g l e=>?_,r.old,rfl,λa m so kp=>?_⟩
 .rw[du]at e;split at e<;>cases e
 .have c:((bc σ.length Z8).set i (Z9 (z17 (G.od,d))))[i]?=Z9 (Z9 (z17 (G.od,d))):=by
   rw[c9];rw[cq];exact b
  obtain⟨w,f,h⟩:=so.sl i _ _ c;exact q a w kp.len f (h.weak λ_ _=>trivial) λj k=>kp.rest j (by simpa[tgIx]using k)
theorem zt3 (r:Rep K H B v (.tuple [a,b]))(n:i<σ.length)(o:j<σ.length)(l:i≠j)
  (q:∀c u w,c.length=σ.length->c[i]?=Z9 (Z9 u)->c[j]?=Z9 (Z9 w)->Rep K H AnyB u a->Rep K H AnyB w b->(∀k,k≠i->k≠j->c[k]?=σ[k]?)->Q c H):tDG K (.tp [i,j]) v σ H Q:=by
 have p:∀g e,z17 (g,e)=(.od,e)\/z17 (g,e)=(.al,e):=λg e=>by cases g<;>first|exact .inl rfl|exact .inr rfl
 refine⟨bc σ.length Z8,F0 H,(.od,.tuple [a,b]),((bc σ.length Z8).set i (Z9 (z17 (gJ a .od,a)))).set j (Z9 (z17 (gJ b .od,b))),yS (by rw[cq]) λj g z e=>?_,r.old,rfl,λc A so kp=>?_⟩
 .rw[du]at e;split at e<;>cases e
 .have sl:∀k e g,(((bc σ.length Z8).set i (Z9 (z17 (gJ a .od,a)))).set j (Z9 (z17 (gJ b .od,b))))[k]?=Z9 (Z9 (z17 (g,e)))->∃v,c[k]?=Z9 (Z9 v)/\Rep K H AnyB v e:=fun k e g h=>by
   rcases p g e with m|m
   .rw[m]at h;obtain⟨v,d,f⟩:=so.sl k _ _ h;exact⟨v,d,f.weak λ_ _=>trivial⟩
   .rw[m]at h;obtain⟨v,d,f⟩:=so.sl k _ _ h;exact⟨v,d,f.weak λ_ _=>trivial⟩
  obtain⟨u,d,f⟩:=sl i a _ (by rw[cj (Ne.symm l),c9];rw[cq];exact n);obtain⟨w,s,t⟩:=sl j b _ (by rw[c9];rw[cz,cq];exact o);exact q c u w kp.len d s f t λk x y=>kp.rest k (by simpa[tgIx]using⟨x,y⟩)
end
section
variable {Z:Wc}{σ:L2.St}{H:Hp}{Q:VK}
theorem KZ:StOk Z.K (F0 H) H σ (bc σ.length Z8):=yS (by rw[cq]) λi g d e=>by rw[du]at e;split at e<;>cases e
theorem fO (q:∀a,Same H a->Q (.int n) a):wE Z (.aY (.int n)) σ H Q:=⟨_,F0 H,(.fr,.int n),KZ,rfl,λv b c r=>by cases r;exact q b c⟩
theorem Fo (d:Z2 x=Z7)(q:∀a,Same H a->Q (.str x) a):wE Z (.aY (.str x)) σ H Q:=⟨_,F0 H,(.fr,.str x),KZ,rfl,λv b c r=>by cases r.1;exact q b c⟩
theorem yT {K:Z5}(d:Rep K H B x dx)(f:Rep K H B' y dy)(e:cmpD c dx dy=.ok b)(q:∀a,Same H a->Q (.bl b) a):uW K (mB (cmpD c)) x y H Q:=⟨B,B',dx,dy,.bool b,d,f,by show(cmpD c dx dy>>=λb=>Res.ok (ZX b))=_;rw[e];rfl,λw a s r=>by cases r;exact q a s⟩
theorem Ug {K:Z5}(a:Rep K H B x dx)(e:ixD dx (.int i)=.ok d)(q:∀w,Rep K H B w d->Q w H):lY K x (.int i) H Q:=⟨B,AnyB,dx,.int i,d,a,rfl,e,q⟩
theorem Uh (h:Z.fn[j]?=Z9 (spD Z.K n m))(q:wA Z as σ H λa b=>spD Z.K n m a b Q Z.E):wE Z (.cP j as) σ H Q:=by show(match Z.fn[j]? with|some c=>rC c [] Z.E (wA Z as)|none=>qL) σ H Q;rw[h];show wA Z as σ H λa b=>spD Z.K n m (a++[]) b Q Z.E;simpa only[ce]using q
theorem Ui (so:StOk Z.K (F0 H) H σ b)(e:aE Z.Κ Z.Φ c b=.ok (g,d))(q:∀v a,Same H a->Rep Z.K a AnyB v d->Q v a):wE Z (.aY c) σ H Q:=⟨b,F0 H,(g,d),so,e,λv a s r=>q v a s (r.weak λ_ _=>trivial)⟩
theorem Uj (so:StOk Z.K (F0 H) H σ a)(e:dF Z.Κ Z.Φ c a=.ok b)(q:∀d,Same H d->R b d):wT Z (.tp c) σ H R:=⟨a,F0 H,b,so,e,q⟩
theorem Uk (q:wE Z a σ H λx c=>wE Z b σ c λy d=>lY Z.K x y d Q):wE Z (.ix a b) σ H Q:=q
theorem yU (q:wE Z a σ H λx c=>wE Z b σ c λy d=>rK Z.K x y d Q):wE Z (.mM a b) σ H Q:=q
theorem aH (q:wE Z a σ H λx b=>wA Z r σ b λc d=>R (x::c) d):wA Z (.cons a r) σ H R:=q
theorem bD (q:R [] H):wA Z .nil σ H R:=q
theorem aL (e:σ[i]?=Z9 (Z9 v))(q:Q v H):wE Z (.raw i) σ H Q:=⟨v,e,q⟩
theorem yV (q:wE Z a σ H λx c=>wE Z b σ c λy d=>uW Z.K (mB (cmpD e)) x y d λz f=>∃k,z=.bl k/\R k f):wT Z (.tc e a b) σ H R:=q
theorem K0 (q:wE Z a σ H λx b=>∃k,lN Z.K x b k/\R k b):wT Z (.yM a) σ H R:=q
theorem vJ (q:wA Z c σ H λa b=>a.length<=bb/\∀p,b p=Z8->Q (.ref p) (upd b p (.tup a))):wE Z (.tup c) σ H Q:=q
theorem fH (q:wA Z c σ H λa b=>a.length<=bb/\∀p,b p=Z8->Q (.ref p) (upd b p (.lst a))):wE Z (.lst c) σ H Q:=q
theorem K1 (q:wE Z it σ H (jY Z.K en λJ h=>∀l,h l=Z8->∃P:Nat->Nat->List V->Hp->Prop,(∃m,P 0 m [] (upd h l (.lst [])))/\∀i m a g,P i m a g->(J.stop i g/\Q (.ref l) g)\/(J.go i g/\a.length<bb/\∃N:List V->Hp->Prop,(∀d j,N d j->∃k,k<m/\P (i+1) k d j)/\∀x n,J.fJ i g x n->tDG Z.K t x (eP o p σ) n λf u=>eQ (eP o p σ) f/\wT {Z with E:=λ_ _ _=>False,xf:=Z8} c f u λb r=>if b=Z7 then wE {Z with E:=λ_ _ _=>False,xf:=Z8} e f r λy s=>s l=Z9 (.lst a)/\N (a++[y]) (upd s l (.lst (a++[y])))else N a r))):wE Z (.lc o p N' t en it c e) σ H Q:=q
end
mutual
theorem rY:∀(d:am) (n:Nat),aG n d=Z7->PyData.eqv d d=Z7
 |.none,_,_=>rfl
 |.bool b,_,_=>by cases b<;>rfl
 |.int i,_,_=>by rw[PyData.eqv];exact xp rfl
 |.str s,_,_=>by rw[PyData.eqv];exact beq_self_eq_true s
 |.tuple xs,0,h=>by cases h
 |.list xs,0,h=>by cases h
 |.tuple xs,n+1,h=>by rw[PyData.eqv];exact sZ xs n h
 |.list xs,n+1,h=>by rw[PyData.eqv];exact sZ xs n h
 |.dict es,n,h=>by cases n<;>cases h
theorem sZ:∀(ds:List am) (n:Nat),dM n ds=Z7->ZW ds ds=Z7
 | [],_,_=>rfl
 |d::ds,n,h=>by obtain⟨h1,h2⟩:=az.mp h;rw[ZW,rY d n h1,sZ ds n h2];rfl
end
theorem AL (h:aG 40 d=Z7):cmpD .NotEq d d=.ok false:=by show(if(aG 40 d&&aG 40 d)=Z7 then Res.ok (!cc d d)else Res.no)=_;rw[h,show cc d d=Z7 from rY d 40 h];rfl
end Mi
namespace Mk
open PySem Mi
def yW:S:=(.seq (.aZ (.not (.and (.tv (.rN (.var 0) ["str"])) (.tv (.cmp .In (.var 0) (.tup (.cons (.str "for") (.cons (.str "against") .nil)))))))
 (.seq .bad
 .nil)
 .nil)
 .nil)
def pK:Fn:=aI [] [] 1 yW
def yX:S:=(.seq (.drop (.call 0 "check_side" (.cons (.var 0) .nil)))
 (.seq (.ret (.jN (.tv (.cmp .Eq (.var 0) (.str "for"))) (.str "against") (.str "for")))
 .nil))
def kA:Fn:=aI [] [pK] 1 yX
def yY:S:=(.seq (.drop (.call 0 "check_side" (.cons (.var 1) .nil)))
 (.seq (.ret (.jN (.tv (.cmp .Eq (.var 1) (.str "for"))) (.ix (.var 0) (.int 0)) (.ix (.var 0) (.int 1))))
 .nil))
def hE:Fn:=aI [] [pK] 2 yY
def yZ:S:=(.seq (.asg (.nm 1) .dR)
 (.seq (.aV (.tp [2,3]) (.tv (.var 0))
 (.seq (.dX 1 (.var 2) (.bi "max" (.cons (.var 3) (.cons (.mt "get" (.var 1) (.cons (.var 2) (.cons (.int 0) .nil))) .nil))))
 .nil))
 (.seq (.ret (.gO "tuple" (.tv (.comp 1 [] ["pair"] (.nm 0) (.tv (.sortI 1)) (.tv (.cmp .Gt (.ix (.var 0) (.int 1)) (.int 0))) (.var 0)))))
 .nil)))
def pL:Fn:=aI [] [] 4 yZ
def y3:S:=(.seq (.ret (.mt "get" (.gO "dict" (.tv (.var 0))) (.cons (.var 1) (.cons (.int 0) .nil)))) .nil)
def kB:Fn:=aI [] [] 2 y3
def y4:S:=(.seq (.asg (.nm 2) (.gO "dict" (.tv (.var 1))))
 (.seq (.ret (.comp 2 [2] ["name","amount","held"] (.tp [0,1]) (.tv (.var 0)) (.tv (.cmp .Gt (.var 1) (.mt "get" (.var 2) (.cons (.var 0) (.cons (.int 0) .nil))))) (.var 0)))
 .nil))
def kC:Fn:=aI [] [] 3 y4
def y6:S:=(.seq (.ret (.cmp .Eq (.call 0 "over" (.cons (.var 0) (.cons (.var 1) .nil))) (.lst .nil))) .nil)
def tE:Fn:=aI [] [kC] 2 y6
def y7:S:=(.seq (.aZ (.not (.tv (.call 0 "within" (.cons (.var 2) (.cons (.call 1 "side_of" (.cons (.var 0) (.cons (.var 1) .nil))) .nil)))))
 (.seq .bad
 .nil)
 .nil)
 (.seq (.ret (.tup (.cons (.var 0) (.cons (.var 1) (.cons (.var 2) .nil)))))
 .nil))
def tF:Fn:=aI [] [tE,hE] 3 y7
def zc:S:=(.seq (.ret (.call 0 "side_of" (.cons (.ix (.var 0) (.int 0)) (.cons (.call 1 "other_side" (.cons (.ix (.var 0) (.int 1)) .nil)) .nil)))) .nil)
def mQ:Fn:=aI [] [hE,kA] 1 zc
def zd:S:=(.seq (.asg (.nm 2) (.ix (.var 0) (.int 1)))
 (.seq (.asg (.nm 3) (.call 0 "over" (.cons (.ix (.var 0) (.int 2)) (.cons (.call 2 "side_of" (.cons (.var 1) (.cons (.var 2) .nil))) .nil))))
 (.seq (.asg (.nm 4) (.call 0 "over" (.cons (.call 2 "side_of" (.cons (.var 1) (.cons (.call 3 "other_side" (.cons (.var 2) .nil)) .nil))) (.cons (.call 1 "opposed_of" (.cons (.var 0) .nil)) .nil))))
 (.seq (.ret (.bin .Add (.comp 1 [] ["name"] (.nm 0) (.tv (.var 3)) .nil (.tup (.cons (.str "less") (.cons (.var 0) .nil)))) (.comp 1 [] ["name"] (.nm 0) (.tv (.var 4)) .nil (.tup (.cons (.str "more") (.cons (.var 0) .nil))))))
 .nil))))
def tG:Fn:=aI [] [kC,mQ,hE,kA] 5 zd
def K2:S:=(.seq (.ret (.cmp .Eq (.call 0 "apart" (.cons (.var 0) (.cons (.var 1) .nil))) (.lst .nil))) .nil)
def vK:Fn:=aI [] [tG] 2 K2
def Fp:S:=(.seq (.aV (.tp [2,3]) (.enum (.var 0))
 (.seq (.aZ (.tv (.call 0 "binds" (.cons (.var 3) (.cons (.var 1) .nil))))
 (.seq (.ret (.tup (.cons (.ix (.var 3) (.int 1)) (.cons (.var 2) .nil))))
 .nil)
 .nil)
 .nil))
 (.seq (.ret .bG)
 .nil))
def Fq:Fn:=aI [] [vK] 4 Fp
def K3:S:=(.seq (.ret (.call 0 "ruling" (.cons (.var 0) (.cons (.var 1) (.cons (.call 1 "side_of" (.cons (.var 0) (.cons (.var 1) .nil))) .nil))))) .nil)
def Fs:Fn:=aI [] [tF,hE] 2 K3
def K4:S:=(.seq (.asg (.nm 2) (.comp 1 [] ["row"] (.nm 0) (.tv (.var 0)) (.tv (.cmp .Eq (.ix (.var 0) (.int 0)) (.str "fact"))) (.ix (.var 0) (.int 1))))
 (.seq (.ret (.gO "tuple" (.tv (.comp 1 [2] ["pair","facts"] (.nm 0) (.tv (.var 1)) (.tv (.cmp .In (.ix (.var 0) (.int 0)) (.var 1))) (.var 0)))))
 .nil))
def tH:Fn:=aI [] [] 3 K4
def AM:S:=(.seq (.asg (.nm 3) (.ix (.var 0) (.int 0)))
 (.seq (.aZ (.tv (.cmp .Eq (.var 3) (.str "at")))
 (.seq (.ret (.cmp .GtE (.call 1 "degree" (.cons (.var 1) (.cons (.ix (.var 0) (.int 1)) .nil))) (.ix (.var 0) (.int 2))))
 .nil)
 .nil)
 (.seq (.aZ (.tv (.cmp .Eq (.var 3) (.str "is")))
 (.seq (.ret (.cmp .In (.ix (.var 0) (.int 1)) (.var 2)))
 .nil)
 .nil)
 (.seq (.aZ (.tv (.cmp .Eq (.var 3) (.str "not")))
 (.seq (.ret (.not (.call 0 "holds" (.cons (.ix (.var 0) (.int 1)) (.cons (.var 1) (.cons (.var 2) .nil))))))
 .nil)
 .nil)
 (.seq (.aZ (.tv (.cmp .Eq (.var 3) (.str "and")))
 (.seq (.ret (.and (.call 0 "holds" (.cons (.ix (.var 0) (.int 1)) (.cons (.var 1) (.cons (.var 2) .nil)))) (.call 0 "holds" (.cons (.ix (.var 0) (.int 2)) (.cons (.var 1) (.cons (.var 2) .nil))))))
 .nil)
 .nil)
 (.seq (.ret (.or (.call 0 "holds" (.cons (.ix (.var 0) (.int 1)) (.cons (.var 1) (.cons (.var 2) .nil)))) (.call 0 "holds" (.cons (.ix (.var 0) (.int 2)) (.cons (.var 1) (.cons (.var 2) .nil))))))
 .nil))))))
def K5:S:=(.seq .bad (.seq .bad (.seq .bad (.seq .bad (.seq .bad (.seq .bad .nil))))))
def lB:Nat->Fn
 |0=>aI [] [] 4 K5
 |k+1=>aI [] [lB k,kB] 4 AM
def AN:S:=(.seq (.asg (.nm 3) (.ix (.var 0) (.int 0)))
 (.seq (.aZ (.tv (.cmp .Eq (.var 3) (.str "some")))
 (.seq (.ret (.gO "any" (.tv (.comp 2 [0] ["thing","words","asking"] (.tp [0,1]) (.zip (.var 1) (.var 2)) .nil (.call 1 "holds" (.cons (.ix (.var 2) (.int 1)) (.cons (.var 0) (.cons (.var 1) .nil))))))))
 .nil)
 .nil)
 (.seq (.aZ (.tv (.cmp .Eq (.var 3) (.str "all")))
 (.seq (.ret (.gO "all" (.tv (.comp 2 [0] ["thing","words","asking"] (.tp [0,1]) (.zip (.var 1) (.var 2)) .nil (.call 1 "holds" (.cons (.ix (.var 2) (.int 1)) (.cons (.var 0) (.cons (.var 1) .nil))))))))
 .nil)
 .nil)
 (.seq (.aZ (.tv (.cmp .Eq (.var 3) (.str "not")))
 (.seq (.ret (.not (.call 0 "so" (.cons (.ix (.var 0) (.int 1)) (.cons (.var 1) (.cons (.var 2) .nil))))))
 .nil)
 .nil)
 (.seq (.aZ (.tv (.cmp .Eq (.var 3) (.str "and")))
 (.seq (.ret (.and (.call 0 "so" (.cons (.ix (.var 0) (.int 1)) (.cons (.var 1) (.cons (.var 2) .nil)))) (.call 0 "so" (.cons (.ix (.var 0) (.int 2)) (.cons (.var 1) (.cons (.var 2) .nil))))))
 .nil)
 .nil)
 (.seq (.ret (.or (.call 0 "so" (.cons (.ix (.var 0) (.int 1)) (.cons (.var 1) (.cons (.var 2) .nil)))) (.call 0 "so" (.cons (.ix (.var 0) (.int 2)) (.cons (.var 1) (.cons (.var 2) .nil))))))
 .nil))))))
def K6:S:=(.seq .bad (.seq .bad (.seq .bad (.seq .bad (.seq .bad (.seq .bad .nil))))))
def nI:Nat->Fn
 |0=>aI [] [] 4 K6
 |k+1=>aI [] [nI k,(lB 3)] 4 AN
def K7:S:=(.seq (.ret (.call 0 "greatest" (.cons (.comp 1 [2,1] ["name","words","thing"] (.nm 0) (.tv (.var 0)) .nil (.tup (.cons (.var 0) (.cons (.jN (.tv (.cmp .In (.var 0) (.var 1))) (.int 1) (.call 1 "degree" (.cons (.var 2) (.cons (.var 0) .nil)))) .nil)))) .nil))) .nil)
def Ft:Fn:=aI [] [pL,kB] 3 K7
def K8:S:=(.seq (.ret (.tup (.cons (.call 0 "pack_of" (.cons (.ix (.var 0) (.int 2)) (.cons (.var 1) (.cons (.var 2) .nil)))) (.cons (.call 0 "pack_of" (.cons (.ix (.var 0) (.int 3)) (.cons (.var 1) (.cons (.var 2) .nil)))) .nil)))) .nil)
def Fv:Fn:=aI [] [Ft] 3 K8
def K9:S:=(.seq (.asg (.nm 3) (.lst .nil))
 (.seq (.aV (.tp [4,5]) (.zip (.var 1) (.ix (.var 2) (.int 1)))
 (.seq (.asg (.nm 6) (.jN (.tv (.call 0 "holds" (.cons (.ix (.var 0) (.int 2)) (.cons (.var 4) (.cons (.var 5) .nil))))) (.lst (.cons (.ix (.var 0) (.int 1)) .nil)) (.lst .nil)))
 (.seq (.mut "append" 3 (.cons (.bin .Add (.var 5) (.var 6)) .nil))
 .nil)))
 (.seq (.ret (.tup (.cons (.ix (.var 2) (.int 0)) (.cons (.var 3) .nil))))
 .nil)))
def Fw:Fn:=aI [] [(lB 3)] 7 K9
def K':S:=(.seq (.ret (.bin .Mult (.bi "len" (.cons (.comp 1 [] ["row"] (.nm 0) (.tv (.var 0)) (.tv (.cmp .Eq (.ix (.var 0) (.int 0)) (.str "open"))) (.var 0)) .nil)) (.var 1))) .nil)
def AO:Fn:=aI [] [] 2 K'
def La:S:=(.seq (.aV (.nm 2) (.tv (.var 0))
 (.seq (.aZ (.and (.tv (.cmp .Eq (.ix (.var 2) (.int 0)) (.str "claim"))) (.tv (.cmp .Eq (.ix (.var 2) (.int 1)) (.var 1))))
 (.seq (.ret (.ix (.var 2) (.int 2)))
 .nil)
 .nil)
 .nil))
 (.seq .bad
 .nil))
def zi:Fn:=aI [] [] 3 La
def Lb:S:=(.seq (.aZ (.tv (.cmp .Lt (.var 1) (.bi "len" (.cons (.var 0) .nil))))
 (.seq (.ret (.ix (.var 0) (.var 1)))
 .nil)
 .nil)
 (.seq (.ret (.int 0))
 .nil))
def Fx:Fn:=aI [] [] 2 Lb
def Lc:S:=(.seq (.aV (.tp [2,3]) (.tv (.var 0))
 (.seq (.aZ (.tv (.cmp .Eq (.comp 1 [2,3] ["_law_more","_law_name","_law_count_here"] (.nm 0) (.tv (.var 1)) (.and (.tv (.cmp .Eq (.ix (.var 0) (.int 0)) (.var 1))) (.tv (.cmp .GtE (.ix (.var 0) (.int 1)) (.var 2)))) (.var 0)) (.lst .nil)))
 (.seq (.ret (.bl Z6))
 .nil)
 .nil)
 .nil))
 (.seq (.ret (.bl Z7))
 .nil))
def AQ:Fn:=aI [] [] 4 Lc
def Ld:S:=(.seq (.aZ (.tv (.cmp .Eq (.ix (.var 0) (.int 1)) (.ix (.var 1) (.int 1))))
 (.seq (.ret (.bl Z6))
 .nil)
 .nil)
 (.seq (.asg (.nm 2) (.bi "int" (.cons (.cmp .Eq (.ix (.var 0) (.int 1)) (.str "against")) .nil)))
 (.seq (.ret (.and (.call 0 "_law_within" (.cons (.ix (.var 1) (.int 2)) (.cons (.ix (.ix (.var 0) (.int 0)) (.bin .Sub (.int 1) (.var 2))) .nil))) (.call 0 "_law_within" (.cons (.ix (.var 0) (.int 2)) (.cons (.ix (.ix (.var 1) (.int 0)) (.var 2)) .nil)))))
 .nil)))
def Fy:Fn:=aI [] [AQ] 3 Ld
def Le:S:=(.seq (.asg (.nm 1) (.lst (.cons (.tup (.cons (.str "fact") (.cons (.str "fa") .nil))) (.cons (.tup (.cons (.str "fact") (.cons (.str "fb") .nil))) (.cons (.tup (.cons (.str "fact") (.cons (.str "fc") .nil))) (.cons (.tup (.cons (.str "open") (.cons (.str "wopen") (.cons (.tup (.cons (.str "fb") (.cons (.str "fa") .nil))) (.cons (.tup (.cons (.str "fc") .nil)) .nil))))) .nil))))))
 (.seq (.mut "append" 1 (.cons (.tup (.cons (.str "word") (.cons (.str "wlate") (.cons (.tup (.cons (.str "and") (.cons (.tup (.cons (.str "is") (.cons (.str "wopen") .nil))) (.cons (.tup (.cons (.str "at") (.cons (.str "fa") (.cons (.bin .Add (.int 1) (.bin .Mod (.var 0) (.int 2))) .nil)))) .nil)))) .nil)))) .nil))
 (.seq (.mut "append" 1 (.cons (.tup (.cons (.str "open") (.cons (.str "wrude") (.cons (.ix (.lst (.cons (.tup (.cons (.str "wlate") (.cons (.str "fc") .nil))) (.cons (.tup (.cons (.str "fb") .nil)) .nil))) (.bin .Mod (.bin .FloorDiv (.var 0) (.int 2)) (.int 2))) (.cons (.tup (.cons (.str "wopen") .nil)) .nil))))) .nil))
 (.seq (.mut "append" 1 (.cons (.tup (.cons (.str "word") (.cons (.str "wsum") (.cons (.tup (.cons (.str "or") (.cons (.tup (.cons (.str "is") (.cons (.str "wrude") .nil))) (.cons (.tup (.cons (.str "not") (.cons (.tup (.cons (.str "is") (.cons (.str "wlate") .nil))) .nil))) .nil)))) .nil)))) .nil))
 (.seq (.asg (.nm 2) (.tup (.cons (.str "some") (.cons (.tup (.cons (.str "is") (.cons (.str "wsum") .nil))) .nil))))
 (.seq (.asg (.nm 3) (.tup (.cons (.str "all") (.cons (.tup (.cons (.str "or") (.cons (.tup (.cons (.str "is") (.cons (.str "wopen") .nil))) (.cons (.tup (.cons (.str "at") (.cons (.str "fc") (.cons (.int 2) .nil)))) .nil)))) .nil))))
 (.seq (.mut "append" 1 (.cons (.tup (.cons (.str "claim") (.cons (.str "ca") (.cons (.var 2) .nil)))) .nil))
 (.seq (.mut "append" 1 (.cons (.tup (.cons (.str "claim") (.cons (.str "cb") (.cons (.var 3) .nil)))) .nil))
 (.seq (.mut "append" 1 (.cons (.tup (.cons (.str "claim") (.cons (.str "cc") (.cons (.tup (.cons (.str "and") (.cons (.tup (.cons (.str "not") (.cons (.var 3) .nil))) (.cons (.tup (.cons (.str "some") (.cons (.tup (.cons (.str "is") (.cons (.str "wrude") .nil))) .nil))) .nil)))) .nil)))) .nil))
 (.seq (.ret (.bin .Add (.var 1) (.lst (.cons (.tup (.cons (.str "claim") (.cons (.str "cd") (.cons (.tup (.cons (.str "or") (.cons (.tup (.cons (.str "not") (.cons (.var 2) .nil))) (.cons (.tup (.cons (.str "all") (.cons (.tup (.cons (.str "not") (.cons (.tup (.cons (.str "is") (.cons (.str "wopen") .nil))) .nil))) .nil))) .nil)))) .nil)))) .nil))))
 .nil))))))))))
def zfm:Fn:=aI [] [] 4 Le
def Lf:S:=(.seq (.aV (.tp [2,3]) (.tv (.var 0))
 (.seq (.aZ (.tv (.cmp .Eq (.var 2) (.var 1)))
 (.seq (.ret (.var 3))
 .nil)
 .nil)
 .nil))
 (.seq (.ret (.int 0))
 .nil))
def vL:Fn:=aI [] [] 4 Lf
def AR:S:=(.seq (.aZ (.tv (.cmp .Eq (.ix (.var 0) (.int 0)) (.str "at")))
 (.seq (.ret (.cmp .GtE (.call 1 "_law_degree" (.cons (.var 1) (.cons (.ix (.var 0) (.int 1)) .nil))) (.ix (.var 0) (.int 2))))
 .nil)
 .nil)
 (.seq (.aZ (.tv (.cmp .Eq (.ix (.var 0) (.int 0)) (.str "is")))
 (.seq (.ret (.cmp .In (.ix (.var 0) (.int 1)) (.var 2)))
 .nil)
 .nil)
 (.seq (.aZ (.tv (.cmp .Eq (.ix (.var 0) (.int 0)) (.str "not")))
 (.seq (.ret (.not (.call 0 "_law_of_thing" (.cons (.ix (.var 0) (.int 1)) (.cons (.var 1) (.cons (.var 2) .nil))))))
 .nil)
 .nil)
 (.seq (.asg (.nm 3) (.comp 1 [1,2] ["_law_part","_law_thing","_law_words"] (.nm 0) (.tv (.sl (.var 0) (.tv (.int 1)) .nil)) .nil (.call 0 "_law_of_thing" (.cons (.var 0) (.cons (.var 1) (.cons (.var 2) .nil))))))
 (.seq (.aZ (.tv (.cmp .Eq (.ix (.var 0) (.int 0)) (.str "and")))
 (.seq (.ret (.cmp .NotIn (.bl Z6) (.var 3)))
 .nil)
 .nil)
 (.seq (.ret (.cmp .In (.bl Z7) (.var 3)))
 .nil))))))
def Lg:S:=(.seq .bad (.seq .bad (.seq .bad (.seq .bad (.seq .bad (.seq .bad .nil))))))
def kE:Nat->Fn
 |0=>aI [] [] 4 Lg
 |k+1=>aI [] [kE k,vL] 4 AR
def AS:S:=(.seq (.aZ (.tv (.cmp .Eq (.ix (.var 0) (.int 0)) (.str "some")))
 (.seq (.ret (.cmp .In (.bl Z7) (.comp 2 [0] ["_law_thing","_law_words","_law_asking"] (.tp [0,1]) (.zip (.var 1) (.var 2)) .nil (.call 1 "_law_of_thing" (.cons (.ix (.var 2) (.int 1)) (.cons (.var 0) (.cons (.var 1) .nil)))))))
 .nil)
 .nil)
 (.seq (.aZ (.tv (.cmp .Eq (.ix (.var 0) (.int 0)) (.str "all")))
 (.seq (.ret (.cmp .NotIn (.bl Z6) (.comp 2 [0] ["_law_thing","_law_words","_law_asking"] (.tp [0,1]) (.zip (.var 1) (.var 2)) .nil (.call 1 "_law_of_thing" (.cons (.ix (.var 2) (.int 1)) (.cons (.var 0) (.cons (.var 1) .nil)))))))
 .nil)
 .nil)
 (.seq (.aZ (.tv (.cmp .Eq (.ix (.var 0) (.int 0)) (.str "not")))
 (.seq (.ret (.not (.call 0 "_law_so" (.cons (.ix (.var 0) (.int 1)) (.cons (.var 1) (.cons (.var 2) .nil))))))
 .nil)
 .nil)
 (.seq (.asg (.nm 3) (.comp 1 [1,2] ["_law_part","_law_things","_law_holding"] (.nm 0) (.tv (.sl (.var 0) (.tv (.int 1)) .nil)) .nil (.call 0 "_law_so" (.cons (.var 0) (.cons (.var 1) (.cons (.var 2) .nil))))))
 (.seq (.aZ (.tv (.cmp .Eq (.ix (.var 0) (.int 0)) (.str "and")))
 (.seq (.ret (.cmp .NotIn (.bl Z6) (.var 3)))
 .nil)
 .nil)
 (.seq (.ret (.cmp .In (.bl Z7) (.var 3)))
 .nil))))))
def Lh:S:=(.seq .bad (.seq .bad (.seq .bad (.seq .bad (.seq .bad (.seq .bad .nil))))))
def hF:Nat->Fn
 |0=>aI [] [] 4 Lh
 |k+1=>aI [] [hF k,(kE 3)] 4 AS
def AU:S:=(.seq (.asg (.nm 3) (.comp 1 [0,1] ["_law_reading","_law_asking","_law_things"] (.nm 0) (.tv (.var 2)) (.tv (.call 0 "_law_so" (.cons (.var 1) (.cons (.var 2) (.cons (.ix (.var 0) (.int 1)) .nil))))) (.var 0)))
 (.seq (.asg (.nm 4) (.comp 1 [0,1] ["_law_reading","_law_asking","_law_things"] (.nm 0) (.tv (.var 2)) (.not (.tv (.call 0 "_law_so" (.cons (.var 1) (.cons (.var 2) (.cons (.ix (.var 0) (.int 1)) .nil)))))) (.var 0)))
 (.seq (.aZ (.tv (.cmp .Eq (.var 4) (.lst .nil)))
 (.seq (.ret (.tup (.cons (.str "must") (.cons (.lst .nil) .nil))))
 .nil)
 .nil)
 (.seq (.aZ (.tv (.cmp .Eq (.var 3) (.lst .nil)))
 (.seq (.ret (.tup (.cons (.str "never") (.cons (.lst .nil) .nil))))
 .nil)
 .nil)
 (.seq (.ret (.tup (.cons (.str "open") (.cons (.lst (.cons (.ix (.var 3) (.int 0)) (.cons (.ix (.var 4) (.int 0)) .nil))) .nil))))
 .nil)))))
def Fz:Fn:=aI [] [(hF 3)] 5 AU
section
variable {R C:Type}(bi:R->C->Bool)(sd:R->Bool)(full:C->Bool->R)(st:C->C->Bool)
def bnd:List R->C->Option Bool
 | [],_=>Z8
 |r::rs,c=>if bi r c then Z9 (sd r)else bnd rs c
structure Bk:Prop where
 sf:∀c b,sd (full c b)=b
 t1:∀c c',bi (full c Z7) c'=st c c'
 t2:∀c c',bi (full c Z6) c'=st c' c
 rf:∀c,st c c=Z7
 up:∀r c c',sd r=Z7->bi r c=Z7->st c c'=Z7->bi r c'=Z7
 dn:∀r c c',sd r=Z6->bi r c=Z7->st c' c=Z7->bi r c'=Z7
def Cons (l:List R):Prop:=∀r∈l,∀r'∈l,∀c,bi r c=Z7->bi r' c=Z7->sd r=sd r'
variable {bi sd full st}
theorem Li (h:bnd bi sd l c=Z9 s):∃r∈l,bi r c=Z7/\sd r=s:=by
 induction l with
 |nil=>cases h
 |cons r l a=>
  unfold bnd at h;by_cases e:bi r c=Z7
  .rw[xh e]at h;cases h;simp_all
  .rw[xk e]at h;obtain⟨b,d,f⟩:=a h;exact⟨b,.tail _ d,f⟩
theorem FA:bnd bi sd l c=Z8↔∀r∈l,bi r c=false:=by
 induction l with
 |nil=>exact⟨λ_ r h=>(by cases h),λ_=>rfl⟩
 |cons r l b=>
  unfold bnd;by_cases e:bi r c=Z7
  .rw[xh e];exact⟨λh=>(by cases h),λh=>by rw[h r (.head _)]at e;cases e⟩
  .rw[xk e,b];refine⟨λh a hr=>?_,λh a hr=>h a (.tail _ hr)⟩;rcases ao.mp hr with rfl|hr
   .exact oy.mpr e
   .exact h a hr
theorem Ul (h:Cons bi sd l)(hr:r∈l)(e:bi r c=Z7):bnd bi sd l c=Z9 (sd r):=by
 cases hb:bnd bi sd l c with
 |none=>rw[FA.mp hb r hr]at e;cases e
 |some s=>obtain⟨a,b,d,f⟩:=Li hb;rw[<-f,h a b r hr c d e]
theorem Um (k:Bk bi sd full st)(h:Cons bi sd l)(hn:bnd bi sd l c=Z8):Cons bi sd (l++[full c b]):=by
 have hn:=FA.mp hn
 have one:∀r∈l,∀x,bi r x=Z7->bi (full c b) x=Z7->sd r=b:=λr hr x h1 h2=>by
  cases b with
  |true=>
   rw[k.t1]at h2;cases hs:sd r with
   |true=>rfl
   |false=>have:=k.dn r x c hs h1 h2;rw[hn r hr]at this;cases this
  |false=>
   rw[k.t2]at h2;cases hs:sd r with
   |false=>rfl
   |true=>have:=k.up r x c hs h1 h2;rw[hn r hr]at this;cases this
 intro r hr r' tI x h1 h2;rcases cr.mp hr with hr|hr<;>rcases cr.mp tI with tI|tI
 .exact h r hr r' tI x h1 h2
 .rw[ak.mp tI]at h2 ⊢;rw[one r hr x h1 h2,k.sf]
 .rw[ak.mp hr]at h1 ⊢;rw[one r' tI x h2 h1,k.sf]
 .rw[ak.mp hr,ak.mp tI]
theorem Uo (h:b.length=a.length):(a++[x]).zip (b++[y])=a.zip b++[(x,y)]:=by rw[List.zip_append h.symm];rfl
end
theorem Up (h:ρ[i]?=Z9 (Z9 (g,.dict (en l))))(hl:l.length<64):aE Κ Φ (.sortI i) ρ=.ok (.fr,.list ((pF l).map pr)):=by rw[TC];rw[h];dsimp only;rw[Kg,S5,S6,Ke,Kj];simp only[hl,decide_true,Bool.and_self,if_true]
def vM (acc:P)(l:P):P:=l.foldl (λa p=>put a p.1 (max p.2 (look a p.1))) acc
theorem FC:∀l a,(ks a).Nodup->(ks (vM a l)).Nodup
 | [],_,h=>h
 |p::l,a,h=>FC l _ (EC _ _ _ h)
theorem Lj (n:Str):∀l a,look (vM a l) n=l.foldl (λm p=>if p.1=n then max p.2 m else m) (look a n)
 | [],_=>rfl
 |p::l,a=>by
  have b:vM a (p::l)=vM (put a p.1 (max p.2 (look a p.1))) l:=rfl;rw[b,Lj n l,List.foldl_cons,S0];split
  .rename_i e;rw[e]
  .rfl
def gr (l:P):P:=(pF (vM [] l)).filter λp=>decide (0<p.2)
def up (l:P):P:=(pF l).filter λp=>decide (0<p.2)
theorem Lk (n:Str):∀l,(ks l).Nodup->fnd (l.filter λp=>decide (0<p.2)) n=(fnd l n).filter λv=>decide (0<v)
 | [],_=>rfl
 |p::l,nd=>by
  rw[ks,aw,ci]at nd;have ih:=Lk n l nd.2;by_cases h:0<p.2
  .rw[gz (by simpa using h),fnd,fnd];by_cases e:p.1=n
   .rw[xh e,xh e];show _=if decide (0<p.2)=Z7 then Z9 p.2 else Z8
    rw[xh (xp h)]
   .rw[xk e,xk e];exact ih
  .rw[g6 (by simpa using h),ih,fnd];by_cases e:p.1=n
   .rw[xh e,z1u (e▸nd.1)];show Z8=if decide (0<p.2)=Z7 then Z9 p.2 else Z8
    rw[xk (by simpa using h)]
   .rw[xk e]
theorem Uq (nd:(ks l).Nodup):PK (up l):=⟨(EI nd).filter _,λp hp=>by simpa using(fh.mp hp).2⟩
theorem Ur (nd:(ks l).Nodup)(n:Str):look (up l) n=max (look l n) 0:=by
 unfold look up;rw[Lk n _ (Km (EI nd)),S7 (EH l) nd];cases h:fnd l n with
 |none=>rfl
 |some v=>
  show Option.getD (if _ then _ else _) 0=max v 0;by_cases h:0<v
  .rw[xh (by simpa using h)];show v=_;omega
  .rw[xk (by simpa using h)];show 0=_;omega
theorem Us (l:P):PK (gr l):=Uq (FC l [] jg)
theorem Ll (nd:(ks l).Nodup)(h:∀k∈ks l,k∈ks m):l.length<=m.length:=by have:=J9 nd h;simpa[ks]using this
theorem tJ (hb:PK b):kC [pk a,pk b]=.ok (.fr,.list ((a.filter λp=>decide (look b p.1<p.2)).map λp=>.str p.1)):=by exact dY (eG (KA (E2 (z02 rfl) rfl (Kt _ hb.nd) (EF b)) (Kg b)) (z07 (KC nofun (z24 (λp=>decide (look b p.1<p.2)) (λp=>.str p.1) (bI (v_var rfl (cA a)).1 rfl) rfl (λp=>[Z9 (.al,.str p.1),Z9 (.al,.int p.2),Z9 (.al,.dict (en b))]) (λp _=>rfl) (λp _=>aU (z0m (z02 rfl) (sX (z02 rfl) (z00 (z02 rfl) (z00 z08.e z09)) (EO _ _) rfl).e rfl).e rfl) (λp _ _=>v_var rfl rfl)))))
theorem eq_nil (a:List D)(h:dM 39 a=Z7):cmpD .Eq (.list a) (.list [])=.ok a.isEmpty:=by show(if(aG 40 (.list a)&&aG 40 (.list []))=Z7 then Res.ok (cc (.list a) (.list []))else .no)=_;rw[xh (by show(dM 39 a&&Z7)=Z7;rw[h];rfl)];cases a<;>simp[cc,PyData.eqv,ZW]
theorem Ut (l:P):dM 39 (l.map λp=>Z1 p.1)=true:=iC.mpr λx a=>by obtain⟨p,_,rfl⟩:=au.mp a;rfl
def wi (a b:P):Bool:=(a.filter λp=>decide (look b p.1<p.2)).isEmpty
theorem FD (hb:PK b):tE [pk a,pk b]=.ok (.fr,.bool (wi a b)):=by refine dY (z07 (z0f (z0m (fN (z00 (z02 rfl) (z00 (z02 rfl) z09)) rfl (tJ hb)) (Ev.of (fZ dU)) ?_)));rw[eq_nil _ (Ut _)];unfold wi;rw[jy]
theorem Lm:∀(a:List Int),fW (a.map .int)=Z9 a.sum
 | []=>rfl
 |x::a=>by rw[aw,fW,Lm a];rfl
theorem AV (c:PK a)(d:PK b):wi a b=Z7↔∀n,look a n<=look b n:=by
 unfold wi;rw[qa,l6];constructor
 .intro h n;by_cases hn:n∈ks a
  .obtain⟨v,e⟩:=J7 hn;have:=h _ (pE e);have f:look a n=v:=by unfold look;rw[e];rfl
   simp at this;rw[f];omega
  .have :look a n=0:=by unfold look;rw[z1u hn];rfl
   rw[this];exact d.pG n
 .intro h p g;have:=h p.1;rw[c.bW g]at this;simp;omega
def sd (b:Bool):Str:=if b then "for"else "against"
def own (b:Bool)(f a:P):P:=if b then f else a
def lC (b:Bool)(f a:P):P:=if b then a else f
def kF (f a:P):D:=.tuple [pk f,pk a]
def rl (b:Bool)(f a r:P):D:=.tuple [kF f a,.str (sd b),pk r]
theorem vN (f a:P):aM (kF f a)=true:=by show imms [pk f,pk a]=Z7;rw[imms,imms,cA,cA];rfl
theorem Ln (b:Bool)(f a r:P):aM (rl b f a r)=true:=by show imms [kF f a,.str (sd b),pk r]=Z7;rw[imms,imms,imms,vN,cA];rfl
theorem Uu (b:Bool):pK [.str (sd b)]=.ok (.fr,.none):=by cases b<;>rfl
theorem Lo (b:Bool):kA [.str (sd b)]=.ok (.fr,.str (sd (!b))):=by cases b<;>rfl
theorem Uv (h:Ev Κ Φ t a d):aW Κ Φ (.drop t) a=.ok (.nx a):=by obtain⟨g,h⟩:=h;show(aE Κ Φ t a>>=λ_=>Res.ok (Out.nx a))=_;rw[h];rfl
theorem zj (b:Bool)(f a:P):hE [kF f a,.str (sd b)]=.ok (.fr,pk (own b f a)):=by
 refine dY (eG (Uv (fN (z00 (z02 rfl) z09) rfl (Uu b))) ?_);cases b with
 |true=>exact z07 (z0f (E1 (k:=Z7) (aU (z0m (z02 rfl) fM.e rfl).e rfl) (λ_=>v_ix (z02 rfl) z08.e rfl (cA f)) (y:=pk f) λz=>by cases z))
 |false=>exact z07 (z0f (E1 (k:=Z6) (aU (z0m (z02 rfl) fM.e rfl).e rfl) (x:=pk a) nofun λ_=>v_ix (z02 rfl) z08.e rfl (cA a)))
theorem Lp (b:Bool)(f a:P):own (!b) f a=lC b f a:=by cases b<;>rfl
theorem Uw (b:Bool)(f a r:P):mQ [rl b f a r]=.ok (.fr,pk (lC b f a)):=by refine dY ?_;rw[<-Lp];exact z07 (z0f (z0q (z00 (v_ix (z02 rfl) z08.e rfl (vN f a)).e (z00 (fN (z00 (v_ix (z02 rfl) z08.e rfl rfl).e z09) rfl (Lo b)) z09)) rfl (zj (!b) f a) (cA _)))
def ov (a b:P):List Str:=(a.filter λp=>decide (look b p.1<p.2)).map (·.1)
theorem Ux (a b:P):((a.filter λp=>decide (look b p.1<p.2)).map λp=>Z1 p.1)=(ov a b).map .str:=by unfold ov;rw[dg];rfl
theorem Lq (a b:P):(ov a b).isEmpty=wi a b:=by unfold ov wi;rw[jy]
def vO (x:Str)(n:Str):D:=.tuple [.str x,.str n]
theorem FE (hf:PK f)(ha:PK a)(p:PK c)(q:PK d)(hr:r.length<=60)(u:c.length<=60)(l2:d.length<=60):tG [rl b f a r,kF c d]=.ok (.fr,.list ((ov r (own b c d)).map (vO "less")++(ov (lC b c d) (lC b f a)).map (vO "more"))):=by
 refine dY ?_;have ho:PK (own b c d):=by cases b<;>assumption
 have s:PK (lC b f a):=by cases b<;>assumption
 have j:=tJ (a:=r) ho;have k:=tJ (a:=lC b c d) s;rw[Ux]at j k;refine eG (AB (v_ix (z02 rfl) z08.e rfl rfl)) (eG (qI (Ky (z00 (v_ix (z02 rfl) z08.e rfl (cA r)).e (z00 (fN (z00 (z02 rfl) (z00 (z02 rfl) z09)) rfl (zj b c d)) z09)) rfl j) (sU _)) (eG (qI (Ky (z00 (fN (z00 (z02 rfl) (z00 (fN (z00 (z02 rfl) z09) rfl (Lo b)) z09)) rfl (by rw[zj,Lp])) (z00 (fN (z00 (z02 rfl) z09) rfl (Uw b f a r)) z09)) rfl k) (sU _)) ?_));have l:∀h i x (ns:List Str),h[i]?=Z9 (Z9 (.fr,.list (ns.map .str)))->aE [] [kC,mQ,hE,kA] (.comp 1 [] ["name"] (.nm 0) (.tv (.var i)) .nil (.tup (.cons (.str x) (.cons (.var 0) .nil)))) h=.ok (.fr,.list (ns.map (vO x))):=λh i x ns t=>by have:=z24 (Κ:=[]) (Φ:=[kC,mQ,hE,kA]) (nt:=1) (js:=[]) (N':=["name"]) (tg:=.nm 0) (elt:=.tup (.cons (.str x) (.cons (.var 0) .nil))) (λ_=>Z7) (vO x) (bI (by rw[qF];rw[t];rfl) rfl) rfl (λn=>[Z9 (.al,.str n)]) (λn _=>rfl) (λn _=>qH) (λn _ _=>qG (dP fM (dP (v_var rfl rfl) dU)));rw[gq.mpr λ_ _=>rfl]at this;exact this
 have m:(ov r (own b c d)).length<=60:=by unfold ov;rw[ae];exact a8 (gt _ _) hr
 have o:(ov (lC b c d) (lC b f a)).length<=60:=by unfold ov;rw[ae];exact a8 (gt _ _) (by cases b<;>assumption)
 refine z07 (KC nofun (yL (Ev.of (l _ 3 "less" (ov r (own b c d)) rfl)) (Ev.of (l _ 4 "more" (ov (lC b c d) (lC b f a)) rfl)) (add_list (by grind)) (rO.mpr λz g=>?_)));rcases(cr.mp g)with g|g
 .obtain⟨n,_,rfl⟩:=au.mp g;rfl
 .obtain⟨n,_,rfl⟩:=au.mp g;rfl
theorem Uy {α:Type}(xs ys:List α):(xs++ys).isEmpty=(xs.isEmpty&&ys.isEmpty):=by cases xs<;>simp
def bi (b:Bool)(f a r f' a':P):Bool:=wi r (own b f' a')&&wi (lC b f' a') (lC b f a)
theorem Uz (x y:Str)(b c:List Str):dM 39 (b.map (vO x)++c.map (vO y))=true:=iC.mpr λz a=>by
 rcases(cr.mp a)with a|a
 .obtain⟨n,_,rfl⟩:=au.mp a;rfl
 .obtain⟨n,_,rfl⟩:=au.mp a;rfl
theorem UA (hf:PK f)(ha:PK a)(c:PK d)(e:PK g)(hr:r.length<=60)(h:d.length<=60)(l2:g.length<=60):vK [rl b f a r,kF d g]=.ok (.fr,.bool (bi b f a r d g)):=by refine dY (z07 (z0f (z0m (fN (z00 (z02 rfl) (z00 (z02 rfl) z09)) rfl (FE hf ha c e hr h l2)) (Ev.of (fZ dU)) ?_)));rw[eq_nil _ (Uz _ _ _ _)];unfold bi;rw[Uy,jy,jy,Lq,Lq]
theorem FF (h:0<b)(c:b<2 ^ 200):cE .FloorDiv (.int a) (.int b)=.ok (.int (a/b)):=by show(if _ then _ else _)=_;rw[xh ⟨h,c⟩]
theorem tK (ha:Ev Κ Φ a ρ x)(hb:Oo Κ Φ b ρ i)(hc:Oo Κ Φ c ρ j)(h:pT x i j=.ok d):Ev Κ Φ (.sl a b c) ρ d:=by obtain⟨g1,ha⟩:=ha;unfold Oo at hb hc;exact⟨_,by rw[EW];rw[ha,Res.aC,hb,Res.aC,hc,Res.aC];dsimp only;rw[h,Res.aC]⟩
theorem Ls {α β:Type}(f:α->β)(xs:List α)(i j:Option Int):cut (xs.map f) i j=(cut xs i j).map f:=by unfold cut;rw[ae,List.map_take,List.map_drop]
theorem UC (xs:List Int)(i j:Option Int):pT (.list (xs.map .int)) i j=.ok (.list ((cut xs i j).map .int)):=by show Res.ok (Z0 (cut (xs.map ZZ) i j))=_;rw[Ls]
def Nx (I:Rho->Prop)(z:Res Out):Prop:=∃cF,z=.ok (.nx cF)/\I cF
theorem tL (a:aM d=Z7):eD (.nm j) (gJ d g,d) ρ=.ok (ρ.set j (Z9 (.al,d))):=by rw[mL a];rfl
theorem FG {b:Type}(m:b->D){a:List b}{i:Int}(d:b)(h0:0<=i)(c:i<a.length):ixD (.list (a.map m)) (.int i)=.ok (m (a.getD i.toNat d)):=by
 show Res.eR (cT (a.map m) i)=_;rw[ES _ i (m d) h0 (by rw[ae];exact c)]
 congr 1
 have:i.toNat<a.length:=by omega
 rw[av,av,ba,aq this];rfl
theorem nJ {a:Type}{m:a->D}(h:∀x,aM (m x)=Z7)(b:List a):imms (b.map m)=true:=rO.mpr λx c=>by obtain⟨p,_,rfl⟩:=au.mp c;exact h p
theorem UD (h:aM d=Z7):gC (Z9 (.al,d))=Z9 (.al,d):=by show(if aM d=Z7 then Z9 (G.al,d)else Z8)=_;rw[xh h]
theorem Lu {β:Type}{m:β->D}{Q:Res Out->Prop}(I:List β->Rho->Prop):∀xs pre ρ,(∀FH x post ρ,pre++xs=FH++x::post->I FH ρ->(∃cF,f (m x) ρ=.ok (.nx cF)/\I (FH++[x]) cF)\/∃g d,f (m x) ρ=.ok (.rt g d)/\Q (.ok (.rt g d)))->I pre ρ->(∃cF,dB f (xs.map m) ρ=.ok (.nx cF)/\I (pre++xs) cF)\/∃g d,dB f (xs.map m) ρ=.ok (.rt g d)/\Q (.ok (.rt g d))
 | [],pre,ρ,_,h=>.inl ⟨ρ,rfl,by rw[ce];exact h⟩
 |x::xs,pre,ρ,hf,h=>by
  rcases hf pre x xs ρ rfl h with⟨cF,e,h'⟩|⟨g,d,e,q⟩
  .have e2:pre++x::xs=(pre++[x])++xs:=by simp
   rcases Lu I xs (pre++[x]) cF (λa b c r hh=>hf a b c r (e2.trans hh)) h' with⟨kO,e3,h3⟩|⟨g,d,e3,q⟩
   .exact .inl ⟨kO,by rw[aw];show(match f (m x) ρ with|.ok (.nx cF)=>dB f (xs.map m) cF|.ok (.rt g d)=>.ok (.rt g d)|.no=>.no)=_;rw[e];exact e3,by rw[e2];exact h3⟩
   .exact .inr ⟨g,d,by rw[aw];show(match f (m x) ρ with|.ok (.nx cF)=>dB f (xs.map m) cF|.ok (.rt g d)=>.ok (.rt g d)|.no=>.no)=_;rw[e];exact e3,q⟩
  .exact .inr ⟨g,d,by rw[aw];show(match f (m x) ρ with|.ok (.nx cF)=>dB f (xs.map m) cF|.ok (.rt g d)=>.ok (.rt g d)|.no=>.no)=_;rw[e],q⟩
theorem zhi {Q:Res Out->Prop}{β:Type}{m:β->D}{xs:List β}(h:evF Κ Φ it ρ=.ok (g,xs.map m,ρ1))(I:List β->Rho->Prop)(h0:I [] ρ1)
  (hf:∀pre x post ρ,xs=pre++x::post->I pre ρ->∃kO,eD t' (gJ (m x) g,m x) ρ=.ok kO/\(Nx (I (pre++[x])) (aW Κ Φ p kO)\/∃g d,aW Κ Φ p kO=.ok (.rt g d)/\Q (.ok (.rt g d)))) (hk:∀cF,I xs cF->Q (aW Κ Φ rest cF)):Q (aW Κ Φ (.seq (.aV t' it p) rest) ρ):=by
 rcases Lu (f:=λx ρ1=>eD t' (gJ x g,x) ρ1>>=λkO=>aW Κ Φ p kO) I xs [] ρ1 (λpre x post ρ hx hI=>by
  obtain⟨kO,e,hh⟩:=hf pre x post ρ hx hI;rcases hh with⟨cF,h1,h2⟩|⟨g',d,h1,h2⟩
  .exact .inl ⟨cF,by rw[e,Res.aC,h1],h2⟩
  .exact .inr ⟨g',d,by rw[e,Res.aC,h1],h2⟩) h0 with⟨cF,e,i⟩|⟨g',d,e,q⟩
 .rw[eG (E8 h e) rfl];exact hk cF i
 .rw[z07 (E8 h e)];exact q
theorem qO (ha:PK a)(hb:PK b)(hc:PK c)(h1:wi a b=Z7)(h2:wi b c=Z7):wi a c=true:=(AV ha hc).mpr λn=>Int.le_trans ((AV ha hb).mp h1 n) ((AV hb hc).mp h2 n)
theorem FI (ha:PK a):wi a a=true:=(AV ha ha).mpr λ_=>sh _
theorem AW (hf:PK f)(c:PK a):PK (own b f a):=by cases b<;>assumption
def mr (p:Bool×P×P×P):D:=rl p.1 p.2.1 p.2.2.1 p.2.2.2
theorem UE (p:Bool×P×P×P):aM (mr p)=true:=Ln _ _ _ _
theorem FJ (h:a[i]?=Z9 (Z9 (g,mr p))):Vv [] Φ (.ix (.var i) (.int 1)) a (.str (sd p.1)):=v_ix (z02 h) z08.e rfl rfl
theorem Lv (b:Bool)(f a:P):ixD (kF f a) (.int (if b then 0 else 1))=.ok (pk (own b f a)):=by cases b<;>rfl
theorem mR (a b:Str):cc (.str a) (.str b)=decide (a=b):=by
 by_cases h:a=b
 .rw[xp h,h];exact beq_self_eq_true b
 .rw[xq h];exact beq_false_of_ne h
theorem Lx (n:Nat)(ws:List Str):dM n (ws.map .str)=true:=iC.mpr λx hx=>by obtain⟨w,_,rfl⟩:=au.mp hx;cases n<;>rfl
theorem AX (w:Str)(ws:List Str):cmpD .In (.str w) (.list (ws.map .str))=.ok (decide (w∈ws)):=by
 show(if(aG 40 (.str w)&&dM 40 (ws.map .str))=Z7 then Res.ok ((ws.map Z1).any λy=>cc y (.str w))else .no)=_;rw[Lx,qr];show Res.ok _=_
 congr 1
 apply j7.mpr;rw[gh,decide_eq_true_iff];refine⟨λ⟨x,b,a⟩=>?_,λh=>⟨w,h,?_⟩⟩
 .have a:cc (.str x) (.str w)=true:=a;exact xn a▸b
 .show cc (.str w) (.str w)=Z7;rw[mR];simp_all
def tS (a:List Str):D:=.tuple (a.map .str)
theorem tM (a:List Str):aM (tS a)=true:=sU a
theorem UG (l:P)(hl:l.length<64):pL [.list (l.map pr)]=.ok (.fr,pk (gr l)):=by
 refine dY (eG (KA TK rfl) (zlv (E5 rfl rfl rfl) (λa ρ=>∃u v,ρ=[Z9 (.od,.list (l.map pr)),Z9 (.fr,.dict (en a)),u,v]/\(ks a).Nodup/\∀k∈ks a,k∈ks l) (λa p=>put a p.1 (max p.2 (look a p.1))) [] ⟨Z8,Z8,rfl,jg,λ_ h=>by cases h⟩ ?_ ?_))
 .rintro a p ρ hp ⟨u,v,rfl,nd,hs⟩
  refine⟨_,eG (TN (iJ (z00 (z02 rfl) (z00 (sX (z02 rfl) (z00 (z02 rfl) (z00 z08.e z09)) (EO _ _) rfl).e z09)) (Tj _ _) rfl) (z02 rfl) rfl nd (by have:=Ll nd hs;omega)) pH,_,_,rfl,EC _ _ _ nd,λk hk=>?_⟩;rcases(EB _ _ _ _).mp hk with rfl|hk
  .exact au.mpr ⟨p,hp,rfl⟩
  .exact hs k hk
 .rintro ρ ⟨u,v,rfl,nd,hs⟩
  refine z07 (z0f (sW (Ev.of (z24 (λp=>decide (0<p.2)) pr (bI (Up rfl (by have:=Ll nd hs;exact iu this hl)) rfl) rfl (λp=>[Z9 (.al,pr p)]) (λp _=>rfl) (λp _=>aU (z0m (v_ix (z02 rfl) z08.e rfl rfl).e z08.e rfl).e rfl) (λp _ _=>v_var rfl rfl))) rfl rfl (cA _)))
theorem z7r (h:PK al)(n:Str):kB [pk al,.str n]=.ok (.fr,.int (look al n)):=by exact dY (z07 (z0f (sX (Ev.of (E2 (z02 rfl) rfl (Kt _ h.nd) (EF al))) (z00 (z02 rfl) (z00 z08.e z09)) (EO _ _) rfl)))
def vv (wd:List Str)(al:P)(n:Str):Int:=if n∈wd then 1 else look al n
def nv (wd:List Str)(al:P)(ns:List Str):P:=ns.map λn=>(n,vv wd al n)
theorem Ly (h:PK al)(wd ns:List Str)(hl:ns.length<=8):Ft [tS ns,pk al,.list (wd.map .str)]=.ok (.fr,pk (gr (nv wd al ns))):=by
 refine dY ?_
 have d:=z24 (ρ:=[Z9 (.od,tS ns),Z9 (.od,pk al),Z9 (.od,.list (wd.map .str))]) (nt:=1) (js:=[2,1]) (N':=["name","words","thing"]) (tg:=.nm 0) (it:=.tv (.var 0)) (elt:=.tup (.cons (.var 0) (.cons (.jN (.tv (.cmp .In (.var 0) (.var 1))) (.int 1) (.call 1 "degree" (.cons (.var 2) (.cons (.var 0) .nil)))) .nil))) (λ_=>Z7) (λn=>pr (n,vv wd al n)) (bI (v_var rfl (tM ns)).1 rfl) rfl (λn=>[Z9 (.al,.str n),Z9 (.od,.list (wd.map .str)),Z9 (.od,pk al)]) (λ_ _=>rfl) (λ_ _=>qH) λn _ _=>by
  have f:=E1 (Κ:=[]) (Φ:=[pL,kB]) (ρ:=[Z9 (.al,.str n),Z9 (.od,.list (wd.map .str)),Z9 (.od,pk al)]) (c:=.tv (.cmp .In (.var 0) (.var 1))) (a:=.int 1) (b:=.call 1 "degree" (.cons (.var 2) (.cons (.var 0) .nil))) (aU (z0m (z02 rfl) (z02 rfl) (AX n wd)).e rfl) (λ_=>z08) λ_=>z0q (z00 (z02 rfl) (z00 (z02 rfl) z09)) rfl (z7r h n) rfl
  have e:(if truth (.bool (decide (n∈wd)))=Z7 then ZZ 1 else .int (look al n))=.int (vv wd al n):=by
   unfold vv;by_cases hn:n∈wd
   .rw[xh hn,xp hn];rfl
   .rw[xk hn,xq hn];rfl
  rw[e]at f;exact qG (dP (v_var rfl rfl) (dP f dU))
 rw[gq.mpr (λ_ _=>rfl),show(ns.map λn=>pr (n,vv wd al n))=(nv wd al ns).map pr by unfold nv;rw[dg];rfl]at d;exact z07 (z0f (z0q (z00 (Ev.of d) z09) rfl (UG _ (by unfold nv;rw[ae];omega)) (cA _)))
theorem Lz (h:Ev [] Φ t c (kF f a))(d:Ev [] Φ u c (.int (if b then 0 else 1))):Vv [] Φ (.ix t u) c (pk (own b f a)):=v_ix h d (Lv b f a) (cA _)
theorem UH (b:Bool):cE .Sub (.int 1) (.int (if b then 0 else 1))=.ok (.int (if !b then 0 else 1)):=by cases b<;>rfl
theorem UI (hf:PK f)(ha:PK a)(h:wi r (own b f a)=Z7):tF [kF f a,.str (sd b),pk r]=.ok (.fr,rl b f a r):=by exact dY (bO (Ac (aU (z0q (z00 (z02 rfl) (z00 (fN (z00 (z02 rfl) (z00 (z02 rfl) z09)) rfl (zj b f a)) z09)) rfl (FD (AW hf ha)) rfl).e rfl)) (by rw[h];rfl) (z07 (z0f (qG (dP (v_var rfl (vN _ _)) (dP (v_var rfl rfl) (dP (v_var rfl (cA _)) dU)))))))
def nK (fs:List Str)(th:P):P:=th.filter λp=>decide (p.1∈fs)
theorem UJ (h:evW [] Φ it ρ=.ok (g,th.map pr))(a:cL (ρ.getD j Z8)=Z9 (.al,.list (fs.map .str))\/cL (ρ.getD j Z8)=Z9 (.od,.list (fs.map .str)))(c:List Str):aE [] Φ (.comp 1 [j] c (.nm 0) it (.tv (.cmp .In (.ix (.var 0) (.int 0)) (.var 1))) (.var 0)) ρ=.ok (.fr,.list ((nK fs th).map pr)):=by obtain⟨b,a⟩:∃b,cL (ρ.getD j Z8)=Z9 (b,.list (fs.map .str)):=a.elim (λz=>⟨_,z⟩) λz=>⟨_,z⟩;exact z24 (nt:=1) (js:=[j]) (tg:=.nm 0) (cond:=.tv (.cmp .In (.ix (.var 0) (.int 0)) (.var 1))) (elt:=.var 0) (λp=>decide (p.1∈fs)) pr h rfl (λp=>[Z9 (.al,pr p),Z9 (b,.list (fs.map .str))]) (λp _=>by rw[aw,a];rfl) (λp _=>aU (z0m (v_ix (z02 rfl) z08.e rfl rfl).e (z02 rfl) (AX _ _)).e rfl) λp _ _=>v_var rfl (Kh p)
abbrev Q2:={p:P//PK p/\p.length<=2}
abbrev Cs:=Q2×Q2
abbrev Ru:=Bool×Q2×Q2×Q2
def cD (c:Cs):D:=kF c.1.1 c.2.1
def ruD (r:Ru):D:=mr (r.1,r.2.1.1,r.2.2.1.1,r.2.2.2.1)
def biR (r:Ru)(c:Cs):Bool:=bi r.1 r.2.1.1 r.2.2.1.1 r.2.2.2.1 c.1.1 c.2.1
def stC (c c':Cs):Bool:=wi c.1.1 c'.1.1&&wi c'.2.1 c.2.1
def sdR (r:Ru):Bool:=r.1
def gF (c:Cs)(b:Bool):Ru:=(b,c.1,c.2,if b then c.1 else c.2)
theorem hW (r:Ru):aM (ruD r)=true:=UE _
theorem FK (c:Cs):aM (cD c)=true:=vN _ _
theorem vP:Bk biR sdR gF stC where
 sf:=λ_ _=>rfl
 t1:=λ_ _=>rfl
 t2:=λc d=>Bool.and_comm _ _
 rf:=λc=>by unfold stC;rw[FI c.1.2.1,FI c.2.2.1];rfl
 up:=λr c d hs e g=>by obtain⟨b,f,a,q⟩:=r;cases hs;obtain⟨h,i⟩:=az.mp e;obtain⟨j,k⟩:=az.mp g;exact az.mpr ⟨qO q.2.1 c.1.2.1 d.1.2.1 h j,qO d.2.2.1 c.2.2.1 a.2.1 k i⟩
 dn:=λr c d hs e g=>by obtain⟨b,f,a,q⟩:=r;cases hs;obtain⟨h,i⟩:=az.mp e;obtain⟨j,k⟩:=az.mp g;exact az.mpr ⟨qO q.2.1 c.2.2.1 d.2.2.1 h k,qO d.1.2.1 c.1.2.1 f.2.1 j i⟩
theorem UK (r:Ru)(c:Cs):vK [ruD r,cD c]=.ok (.fr,.bool (biR r c)):=UA r.2.1.2.1 r.2.2.1.2.1 c.1.2.1 c.2.2.1 (a8 r.2.2.2.2.2 (by decide)) (a8 c.1.2.2 (by decide)) (a8 c.2.2.2 (by decide))
def tN (k:Nat):Option Bool->D
 |none=>.none
 |some s=>.tuple [.str (sd s),.int k]
theorem UL (k:Nat)(o:Option Bool):aM (tN k o)=true:=by cases o<;>rfl
theorem UM {R C:Type}{bi:R->C->Bool}{sd:R->Bool}{pre post:List R}{r:R}{c:C}(h:∀y∈pre,bi y c=Z6)(hr:bi r c=Z7):bnd bi sd (pre++r::post) c=Z9 (sd r):=by
 induction pre with
 |nil=>exact xh hr
 |cons y pre ih=>show(if bi y c=Z7 then _ else _)=_;rw[xk (by rw[h y (.head _)];decide)];exact ih λz hz=>h z (.tail _ hz)
theorem UN {a:List Ru}(h:b[i]?=Z9 (Z9 (.od,.list (a.map ruD))))(hl:a.length<=100):evF Κ Φ (.enum (.var i)) b=.ok (.al,a.zipIdx.map λx=>.tuple [.int x.2,ruD x.1],b):=by rw[TQ (by rw[qF];rw[h];rfl) rfl (TR (nJ hW a) (by grind)),E6]
theorem UO (hl:rs.length<=100):∃k,Fq [.list (rs.map ruD),cD c]=.ok (.fr,tN k (bnd biR sdR rs c)):=by
 suffices h:∃k,aW [] [vK] Fp [Z9 (.od,.list (rs.map ruD)),Z9 (.od,cD c),Z8,Z8]=.ok (.rt .fr (tN k (bnd biR sdR rs c))) by obtain⟨k,h⟩:=h;exact⟨k,dY h⟩
 let Q:Res Out->Prop:=λz=>∃k,z=.ok (.rt .fr (tN k (bnd biR sdR rs c)))
 show Q _;refine zhi (UN rfl hl) (λpre b=>(∀y∈pre,biR y.1 c=Z6)/\∃d f,b=[Z9 (.od,.list (rs.map ruD)),Z9 (.od,cD c),d,f]) ⟨nofun,Z8,Z8,rfl⟩ ?_ ?_
 .rintro pre x a b hx ⟨hn,d,f,rfl⟩
  refine⟨_,E7 rfl (hW x.1),?_⟩;have ht:Tt [] [vK] (.tv (.call 0 "binds" (.cons (.var 3) (.cons (.var 1) .nil)))) [Z9 (.od,.list (rs.map ruD)),Z9 (.od,cD c),Z9 (.al,.int x.2),Z9 (.al,ruD x.1)] (biR x.1 c):=aU (z0q (z00 (z02 rfl) (z00 (z02 rfl) z09)) rfl (UK x.1 c) rfl).e rfl;cases hb:biR x.1 c with
  |true=>
   refine .inr ⟨.fr,tN x.2 (Z9 x.1.1),z07 (z1d ht (λ_=>z07 (z0f (qG (dP (FJ (p:=(x.1.1,x.1.2.1.1,x.1.2.2.1.1,x.1.2.2.2.1)) rfl) (dP (v_var rfl rfl) dU))))) λz=>by rw[hb]at z;cases z),x.2,?_⟩;have e:rs=pre.map (·.1)++x.1::a.map (·.1):=by have:rs.zipIdx.map (·.1)=(pre++x::a).map (·.1):=congrArg _ hx;rw[tm,bv]at this;exact this
   rw[e,UM (λy g=>by obtain⟨z,i,rfl⟩:=au.mp g;exact hn z i) hb];rfl
  |false=>
   refine .inl ⟨_,eG (z1d ht (λz=>by rw[hb]at z;cases z) λ_=>pH) pH,λy g=>?_,_,_,rfl⟩;rcases cr.mp g with z|z
   .exact hn y z
   .rw[ak.mp z];exact hb
 .rintro b ⟨hn,d,f,rfl⟩
  refine⟨0,?_⟩;have e:bnd biR sdR rs c=none:=FA.mpr λr hr=>by rw[<-tm 0 rs]at hr;obtain⟨z,i,rfl⟩:=au.mp hr;exact hn z i
  rw[e];exact z07 (z0f TF)
theorem UP (c:Cs)(b:Bool):Fs [cD c,.str (sd b)]=.ok (.fr,ruD (gF c b)):=by
 have e:ruD (gF c b)=rl b c.1.1 c.2.1 (own b c.1.1 c.2.1):=by cases b<;>rfl
 refine dY ?_;rw[e];exact z07 (z0f (z0q (z00 (z02 rfl) (z00 (z02 rfl) (z00 (fN (z00 (z02 rfl) (z00 (z02 rfl) z09)) rfl (zj b c.1.1 c.2.1)) z09))) rfl (UI c.1.2.1 c.2.2.1 (FI (AW c.1.2.1 c.2.2.1))) (Ln _ _ _ _)))
theorem zo (a:List Int)(h0:0<=k):∃v,Fx [.list (a.map .int),.int k]=.ok (.fr,.int v):=by
 have b:Tt [] [] (.tv (.cmp .Lt (.var 1) (.bi "len" (.cons (.var 0) .nil)))) [Z9 (.od,.list (a.map .int)),Z9 (.od,.int k)] (decide (k<a.length)):=aU (z0m (z02 rfl) (iJ (z00 (z02 rfl) z09) (by show Res.ok (ZZ ((a.map ZZ).length:Nat))=_;rw[ae]) rfl).e rfl).e rfl;cases hk:decide (k<a.length)with
 |true=>exact⟨_,dY (KG b hk (z07 (z0f (v_ix (z02 rfl) (z02 rfl) (To h0 (xn hk)) rfl))))⟩
 |false=>exact⟨0,dY (bO b hk (z07 (z0f z08)))⟩
theorem LA:wi a b=a.all λp=>!decide (look b p.1<p.2):=by
 unfold wi
 induction a with
 |nil=>rfl
 |cons p a c=>
  rw[jz,c8,<-c];by_cases h:look b p.1<p.2
  .rw[xp h];rfl
  .rw[xk (by rw[xq h];decide),xq h];rfl
def FN (b:P)(p:Str×Int):P:=b.filter λq=>decide (q.1=p.1)&&decide (q.2 ≥ p.2)
theorem UQ (hb:PK b)(c:0<p.2):(FN b p).isEmpty=decide (look b p.1<p.2):=by
 rw[j7,decide_eq_true_iff,qa];unfold FN;rw[l6];constructor
 .intro h;by_cases z:look b p.1<p.2
  .exact z
  .unfold look at z ⊢;cases e:fnd b p.1 with
   |none=>rw[e]at z;exact absurd c z
   |some v=>rw[e]at z;have z:¬v<p.2:=z;exact absurd (h _ (pE e)) (by grind)
 .intro h q d z;obtain⟨f,a⟩:=az.mp z;have a:=xn a;have:=sT hb.nd d;unfold look at h;rw[<-xn f,this]at h;have h:q.2<p.2:=h;omega
theorem UR (l:P):dM 39 (l.map pr)=true:=iC.mpr λx hx=>by obtain⟨p,_,rfl⟩:=au.mp hx;rfl
theorem LB (ha:PK a)(hb:PK b):AQ [pk a,pk b]=.ok (.fr,.bool (wi a b)):=by
 refine dY ?_
 let Q:Res Out->Prop:=λz=>z=.ok (.rt .fr (.bool (wi a b)))
 show Q _;refine zhi (KD rfl (by decide) (cA a) rfl) (λpre ρ=>(∀p∈pre,¬look b p.1<p.2)/\∃u2 u3,ρ=[Z9 (.od,pk a),Z9 (.od,pk b),u2,u3]) ⟨nofun,Z8,Z8,rfl⟩ ?_ ?_
 .rintro pre p post ρ hx ⟨hn,u2,u3,rfl⟩
  refine⟨_,E7 rfl rfl,?_⟩;have ht:Tt [] [] (.tv (.cmp .Eq (.comp 1 [2,3] ["_law_more","_law_name","_law_count_here"] (.nm 0) (.tv (.var 1)) (.and (.tv (.cmp .Eq (.ix (.var 0) (.int 0)) (.var 1))) (.tv (.cmp .GtE (.ix (.var 0) (.int 1)) (.var 2)))) (.var 0)) (.lst .nil))) [Z9 (.od,pk a),Z9 (.od,pk b),Z9 (.al,.str p.1),Z9 (.al,.int p.2)] (decide (look b p.1<p.2)):=by refine aU (z0m (k:=decide (look b p.1<p.2)) (Ev.of (z24 (Κ:=[]) (Φ:=[]) (ρ:=[Z9 (.od,pk a),Z9 (.od,pk b),Z9 (.al,.str p.1),Z9 (.al,.int p.2)]) (nt:=1) (js:=[2,3]) (N':=["_law_more","_law_name","_law_count_here"]) (tg:=.nm 0) (it:=.tv (.var 1)) (cond:=.and (.tv (.cmp .Eq (.ix (.var 0) (.int 0)) (.var 1))) (.tv (.cmp .GtE (.ix (.var 0) (.int 1)) (.var 2)))) (elt:=.var 0) (λq=>decide (q.1=p.1)&&decide (q.2 ≥ p.2)) pr (bI (v_var rfl (cA b)).1 rfl) rfl (λq=>[Z9 (.al,pr q),Z9 (.al,.str p.1),Z9 (.al,.int p.2)]) (λq _=>rfl) (λq _=>Kz (aU (z0m (v_ix (z02 rfl) z08.e rfl rfl).e (z02 rfl) (by exact congrArg Res.ok (mR q.1 p.1))).e rfl) λ_=>aU (z0m (v_ix (z02 rfl) z08.e rfl rfl).e (z02 rfl) rfl).e rfl) λq _ _=>v_var rfl (Kh q))) (Ev.of (fZ dU)) ?_).e rfl;rw[show(oz (λq=>decide (q.1=p.1)&&decide (q.2 ≥ p.2)) b)=FN b p from rfl,eq_nil _ (UR _),jy,UQ hb (ha.pos p (hx▸bp _ bj))]
  by_cases h:look b p.1<p.2
  .refine .inr ⟨.fr,.bool Z6,z07 (z1d ht (λ_=>z07 (z0f eV)) λz=>by rw[xp h]at z;cases z),?_⟩;show _=_;have e:wi a b=false:=by rw[LA,hx,List.all_append,c8,xp h];exact rj _
   rw[e]
  .refine .inl ⟨_,eG (z1d ht (λz=>by rw[xq h]at z;cases z) λ_=>pH) pH,λy hy=>?_,_,_,rfl⟩;rcases cr.mp hy with z|z
   .exact hn y z
   .rw[ak.mp z];exact h
 .rintro ρ ⟨hn,u2,u3,rfl⟩
  have e:wi a b=true:=by rw[LA];exact bg.mpr λp hp=>by rw[xq (hn p hp)];rfl
  show aW _ _ _ _=_;rw[e];exact z07 (z0f eV)
theorem US (b:Bool):kN "int" [.bool (decide ((sd b)=("against":Str)))]=.ok (.int (if b then 0 else 1)):=by cases b<;>rfl
theorem UT (h:Ev [] Φ t a (.str (sd b))):Vv [] Φ (.bi "int" (.cons (.cmp .Eq t (.str "against")) .nil)) a (.int (if b then 0 else 1)):=iJ (z00 (z0m (k:=decide (sd b=("against":Str))) h fM.e (by exact congrArg Res.ok (mR _ _))).e z09) (US b) rfl
def agR (r s:Ru):Bool:=!(r.1==s.1)&&(wi s.2.2.2.1 (own (!r.1) r.2.1.1 r.2.2.1.1)&&wi r.2.2.2.1 (own r.1 s.2.1.1 s.2.2.1.1))
theorem UU (b c:Bool):decide (sd b=sd c)=(b==c):=by cases b<;>cases c<;>rfl
theorem UW (r s:Ru):Fy [ruD r,ruD s]=.ok (.fr,.bool (agR r s)):=by
 obtain⟨b,f,a,q⟩:=r;obtain⟨b',f',a',q'⟩:=s;refine dY ?_;have ht:Tt [] [AQ] (.tv (.cmp .Eq (.ix (.var 0) (.int 1)) (.ix (.var 1) (.int 1)))) [Z9 (.od,ruD (b,f,a,q)),Z9 (.od,ruD (b',f',a',q')),Z8] (b==b'):=aU (z0m (v_ix (z02 rfl) z08.e rfl rfl).e (v_ix (z02 rfl) z08.e rfl rfl).e (by show Res.ok _=_;rw[mR,UU])).e rfl;have e:agR (b,f,a,q) (b',f',a',q')=(!(b==b')&&(wi q'.1 (own (!b) f.1 a.1)&&wi q.1 (own b f'.1 a'.1))):=rfl;rw[e];cases h:b==b' with
 |true=>exact KG ht h (z07 (z0f eV))
 |false=>refine bO ht h ?_;rw[show((!false)&&(wi q'.1 (own (!b) f.1 a.1)&&wi q.1 (own b f'.1 a'.1)))=(wi q'.1 (own (!b) f.1 a.1)&&wi q.1 (own b f'.1 a'.1))from rfl];exact eG (AB (UT (v_ix (z02 rfl) z08.e rfl rfl).e)) (z07 (z0f (v_and (z0q (z00 (v_ix (z02 rfl) z08.e rfl (cA _)).e (z00 (Lz (v_ix (z02 rfl) z08.e rfl (vN _ _)).e (dC z08.e (z02 rfl) (UH b) rfl).e).e z09)) rfl (LB q'.2.1 (AW f.2.1 a.2.1)) rfl).e λ_=>z0q (z00 (v_ix (z02 rfl) z08.e rfl (cA _)).e (z00 (Lz (v_ix (z02 rfl) z08.e rfl (vN _ _)).e (z02 rfl)).e z09)) rfl (LB q.2.1 (AW f'.2.1 a'.2.1)) rfl)))
theorem LC (bs:List Bool):((bs.map ZX).any λy=>cc y (.bool Z7))=bs.any id:=by
 rw[qr]
 congr 1
 funext b
 cases b<;>rfl
theorem UX (bs:List Bool):cmpD .NotIn (.bool Z7) (.list (bs.map .bool))=.ok (!bs.any id):=by
 have e:inD (.bool Z7) (.list (bs.map .bool))=.ok (bs.any id):=by show(if(aG 40 (.bool Z7)&&dM 40 (bs.map .bool))=Z7 then Res.ok ((bs.map ZX).any λy=>cc y (.bool Z7))else .no)=_;have h:(aG 40 (.bool Z7)&&dM 40 (bs.map .bool))=true:=az.mpr ⟨rfl,iC.mpr λx hx=>by obtain⟨b,_,rfl⟩:=au.mp hx;rfl⟩;rw[xh h,LC]
 show(inD (.bool Z7) (.list (bs.map .bool))>>=λb=>Res.ok (!b))=_;rw[e];rfl
theorem FO (h:∀r∈l,∀s∈l,agR r s=Z6):Cons biR sdR l:=λr hr s hs c p t=>by
 have z:=h r hr s hs;by_cases e:r.1=s.1
 .exact e
 .exfalso;obtain⟨b,f,a,q⟩:=r;obtain⟨g,i,j,d⟩:=s;have z:(!(b==g)&&(wi d.1 (own (!b) f.1 a.1)&&wi q.1 (own b i.1 j.1)))=false:=z;obtain⟨k,m⟩:=az.mp p;obtain⟨n,o⟩:=az.mp t;have w:wi d.1 (own (!b) f.1 a.1)=Z7/\wi q.1 (own b i.1 j.1)=true:=by cases b<;>cases g<;>first|exact absurd rfl e|exact⟨qO d.2.1 c.1.2.1 f.2.1 n m,qO q.2.1 c.2.2.1 j.2.1 k o⟩|exact⟨qO d.2.1 c.2.2.1 a.2.1 n m,qO q.2.1 c.1.2.1 i.2.1 k o⟩
  rw[w.1,w.2,show(b==g)=Z6 from beq_false_of_ne e]at z;cases z
theorem UY (r s:Ru):agR r s=agR s r:=by obtain⟨b,f,a,q⟩:=r;obtain⟨c,d,e,g⟩:=s;cases b<;>cases c<;>first|rfl|(show(Z7&&(_&&_))=(Z7&&(_&&_));exact congrArg (Z7&& ·) (Bool.and_comm _ _))
def NM:List Str:=["fa","fb","fc","wopen","wlate"]
theorem UZ (h:n∈NM):∃s,ixD (.str n) (.int 0)=.ok (.str s):=by simp only[NM,ao,fm,or_false]at h;rcases h with rfl|rfl|rfl|rfl|rfl<;>exact⟨_,rfl⟩
theorem U0 (h:n∈NM):Z2 n=true:=by
 have:NM.all Z2=true:=by decide+kernel
 exact bg.mp this n h
structure SO (fs sf:List Str):Prop where
 nd:fs.Nodup
 lf:fs.length<=2
 l2:sf.length<=2
 pw:sf.Pairwise sl
 mm:∀n,n∈sf↔n∈fs
 ev:∀b,aggD "sorted" b (fs.map .str)=.ok (.list (sf.map .str))
 nm:∀n∈sf,n∈NM
structure Op where
 n:Str
 fs:List Str
 gs:List Str
 sf:List Str
 sg:List Str
 of:SO fs sf
 og:SO gs sg
 so:Z2 n=Z7
def opD (o:Op):D:=.tuple [.str "open",.str o.n,tS o.fs,tS o.gs]
theorem FP (o:Op):aM (opD o)=true:=by show imms [.str "open",.str o.n,tS o.fs,tS o.gs]=Z7;rw[imms,imms,imms,imms,tM,tM];rfl
theorem U1 {ns:List Str}(h:∀p∈l,p.1∈ns)(hn:n∉ns):look l n=0:=by unfold look;rw[z1u λz=>by obtain⟨p,a,rfl⟩:=au.mp z;exact hn (h p a)];rfl
def cv (ws:List Str)(th:P)(l:List Str):P:=(nv ws th l).filter λp=>decide (0<p.2)
theorem AY (h:l.Pairwise sl):PK (cv ws th l) where
 sd:=(lv.mpr (h.imp λ{a b} h=>h):(nv ws th l).Pairwise _).sublist List.filter_sublist
 pos:=λp c=>xn (fh.mp c).2
theorem LD:(cv ws th l).length<=l.length:=by have:=gt (λp:Str×Int=>decide (0<p.2)) (nv ws th l);unfold cv;unfold nv at this ⊢;rw[ae]at this;exact this
theorem U2:∀p∈cv ws th l,p.1∈l:=λp hp=>by obtain⟨n,hn,rfl⟩:=au.mp (fh.mp hp).1;exact hn
theorem U3 (h:l.Pairwise sl)(n:Str):look (cv ws th l) n=if n∈l then max (vv ws th n) 0 else 0:=by
 by_cases hn:n∈l
 .rw[xh hn];by_cases b:0<vv ws th n
  .have :(n,vv ws th n)∈cv ws th l:=fh.mpr ⟨au.mpr ⟨n,hn,rfl⟩,xp b⟩;unfold look;rw[sT (AY h).nd this];show vv ws th n=_;omega
  .have e:fnd (cv ws th l) n=none:=z1u fun z=>by
    obtain⟨p,a,rfl⟩:=au.mp z;obtain⟨c,d⟩:=fh.mp a;obtain⟨m,_,rfl⟩:=au.mp c;exact b (xn d)
   unfold look;rw[e];show 0=_;omega
 .rw[xk hn];exact U1 U2 hn
theorem FQ (ws:List Str)(th:P)(n:Str):∀ns m,ns.Nodup->0<=m->(nv ws th ns).foldl (λm p=>if p.1=n then max p.2 m else m) m=if n∈ns then max (vv ws th n) m else m
 | [],m,_,_=>rfl
 |x::ns,m,nd,h=>by
  obtain⟨b,a⟩:=ci.mp nd;show(nv ws th ns).foldl _ (if x=n then max (vv ws th x) m else m)=_;by_cases e:x=n
  .subst e;rw[xh rfl,FQ ws th x ns _ a (by omega),xk b,xh bj]
  .rw[xk e,FQ ws th n ns m a h];by_cases hn:n∈ns
   .rw[xh hn,xh (b0 _ hn)]
   .rw[xk hn,xk λz=>(ao.mp z).elim (λz=>e z.symm) hn]
theorem LF (s:SO fs sf):gr (nv ws th fs)=cv ws th sf:=by
 refine PK.ext (Us _) (AY s.pw) λn=>?_;have e:look (gr (nv ws th fs)) n=max (look (vM [] (nv ws th fs)) n) 0:=Ur (FC _ [] jg) n;rw[e,Lj,show look [] n=0 from rfl,FQ ws th n fs 0 s.nd (sh 0),U3 s.pw];by_cases hn:n∈fs
 .rw[xh hn,xh ((s.mm n).mpr hn)];omega
 .rw[xk hn,xk λz=>hn ((s.mm n).mp z)];rfl
def iL (o:Op)(th:P)(ws:List Str):Cs:=(⟨cv ws th o.sf,AY o.of.pw,a8 LD o.of.l2⟩,⟨cv ws th o.sg,AY o.og.pw,a8 LD o.og.l2⟩)
theorem U4 (o:Op)(h:PK th)(ws:List Str):Fv [opD o,pk th,.list (ws.map .str)]=.ok (.fr,cD (iL o th ws)):=by have e1:=Ly h ws o.fs (a8 o.of.lf (by decide));have e2:=Ly h ws o.gs (a8 o.og.lf (by decide));rw[LF o.of]at e1;rw[LF o.og]at e2;exact dY (z07 (z0f (qG (dP (z0q (z00 (v_ix (z02 rfl) z08.e rfl (tM _)).e (z00 (z02 rfl) (z00 (z02 rfl) z09))) rfl e1 (cA _)) (dP (z0q (z00 (v_ix (z02 rfl) z08.e rfl (tM _)).e (z00 (z02 rfl) (z00 (z02 rfl) z09))) rfl e2 (cA _)) dU)))))
abbrev En:=Str×Nat×Ru
abbrev bC:=List En×List (List Str)
def ho (o:Op)(b:Bool):List Str:=if b then[o.n]else[]
def hX (o:Op)(k:Nat)(x:bC)(es:List En)(b:Bool):bC:=(x.1++es,x.2.set k (x.2.getD k []++ho o b))
def z18 (o:Op)(rs:List Ru)(k:Nat)(th:P)(x:bC):List bC:=
 match bnd biR sdR (rs++(x.1.filter λe=>decide (e.1=o.n)).map (·.2.2)) (iL o th (x.2.getD k []))with
 |some s=>[hX o k x [] s]
 |none=>[hX o k x [(o.n,k,gF (iL o th (x.2.getD k [])) Z7)] Z7,hX o k x [(o.n,k,gF (iL o th (x.2.getD k [])) Z6)] Z6]
def openK (o:Op)(rs:List Ru)(ts:List (P×Nat))(l:List bC):List bC:=ts.foldl (λl x=>l.flatMap (z18 o rs x.2 x.1)) l
def zp (o:Op)(rs:List Ru)(ths:List P)(l:List bC):List bC:=openK o rs ths.zipIdx l
theorem FR (o:Op)(b:List Ru):∀a l c,openK o b a (l++c)=openK o b a l++openK o b a c
 | [],_,_=>rfl
 |t::a,l,c=>by show openK o b a ((l++c).flatMap _)=openK o b a (l.flatMap _)++openK o b a (c.flatMap _);rw[tq,FR o b a]
inductive Sg where
 | at(n:Str) (k:Int)
 |is (n:Str)
 |no (a:Sg)
 |an (a b:Sg)
 |or (a b:Sg)
def cW:Sg->D
 |.at n k=>.tuple [.str "at",.str n,.int k]
 |.is n=>.tuple [.str "is",.str n]
 |.no a=>.tuple [.str "not",cW a]
 |.an a b=>.tuple [.str "and",cW a,cW b]
 |.or a b=>.tuple [.str "or",cW a,cW b]
def qP (th:P)(ws:List Str):Sg->Bool
 |.at n k=>decide (k<=look th n)
 |.is n=>decide (n∈ws)
 |.no a=>!qP th ws a
 |.an a b=>qP th ws a&&qP th ws b
 |.or a b=>qP th ws a||qP th ws b
inductive cQ where
 |op (o:Op)
 |wd (n:Str) (s:Sg)
 |id (k:Str) (r:List D)
def tO (n:Str)(s:Sg)(ths:List P)(x:bC):bC:=(x.1,(ths.zip x.2).map λp=>p.2++if qP p.1 p.2 s then[n]else[])
def eL (bk:Str->List Ru)(ths:List P)(l:List bC):cQ->List bC
 |.op o=>zp o (bk o.n) ths l
 |.wd n s=>l.map (tO n s ths)
 |.id _ _=>l
def run5 (bk:Str->List Ru)(ths:List P)(rows:List cQ):List bC:=rows.foldl (eL bk ths) [([],ths.map λ_=>[])]
def gro (bk:Str->List Ru)(es:List En)(n:Str):List Ru:=bk n++(es.filter λe=>decide (e.1=n)).map (·.2.2)
theorem AZ (bk:Str->List Ru)(es a:List En)(n:Str):gro bk (es++a) n=gro bk es n++(a.filter λe=>decide (e.1=n)).map (·.2.2):=by unfold gro;rw[gu,bv,i7]
theorem FT {f:List bC->List bC}(h:∀l l',f (l++l')=f l++f l'):∀{l:List bC},x∈f l->∃y∈l,x∈f [y]
 | [],hx=>by have e:=congrArg qz (h [] []);rw[ce,cg]at e;rw[jc.mp (by omega:(f []).length=0)]at hx;cases hx
 |y::l,hx=>by
  rw[show y::l=[y]++l from rfl,h]at hx;rcases cr.mp hx with hx|hx
  .exact⟨y,.head _,hx⟩
  .obtain⟨z,hz,hx⟩:=FT h hx;exact⟨z,.tail _ hz,hx⟩
theorem U5 (bk:Str->List Ru)(ths:List P)(r:cQ)(l l':List bC):eL bk ths (l++l') r=eL bk ths l r++eL bk ths l' r:=by
 cases r with
 |op o=>exact FR o _ _ l l'
 |wd n s=>exact bv
 |id k r=>rfl
theorem fold_add (bk:Str->List Ru)(b:List P):∀(a:List cQ) l c,a.foldl (eL bk b) (l++c)=a.foldl (eL bk b) l++a.foldl (eL bk b) c
 | [],_,_=>rfl
 |r::a,l,c=>by show a.foldl _ (eL bk b (l++c) r)=_;rw[U5];exact fold_add bk b a _ _
structure Goes (bk:Str->List Ru)(f:(Str->List Ru)->bC->List bC)(y x:bC):Prop where
 ex:∃es,x.1=y.1++es
 co:∀n,Cons biR sdR (gro bk x.1 n)
 un:∀B:Str->List Ru,(∀n,Cons biR sdR (B n))->(∀n,∀r∈gro bk x.1 n,r∈B n)->f B ([],y.2)=[([],x.2)]
theorem Goes.trans (d:Goes bk f y z)(b:Goes bk g z x):Goes bk (λB u=>(f B u).flatMap (g B)) y x:=by obtain⟨h,c⟩:=d.ex;obtain⟨i,a⟩:=b.ex;refine⟨⟨h++i,by rw[a,c,i7]⟩,b.co,λB e hs=>?_⟩;rw[d.un B e (λn r hr=>hs n r (by rw[a,AZ];exact gv _ hr)),l7,qb,ce];exact b.un B e hs
theorem U6 (f:∀n,Cons biR sdR (gro bk y.1 n))(hx:x∈z18 o (bk o.n) k th y):Goes bk (λB=>z18 o (B o.n) k th) y x:=by
 generalize g:iL o th (y.2.getD k [])=c at hx
 have i:∀B:Str->List Ru,z18 o (B o.n) k th ([],y.2)=match bnd biR sdR (B o.n) c with
   |some s=>[hX o k ([],y.2) [] s]
   |none=>[hX o k ([],y.2) [(o.n,k,gF c Z7)] Z7,hX o k ([],y.2) [(o.n,k,gF c Z6)] Z6]:=λB=>by
  unfold z18;rw[show(B o.n++(oz (λe:En=>decide (e.1=o.n)) ([],y.2).1).map (·.2.2))=B o.n from ce _];rw[g]
 have j:z18 o (bk o.n) k th y=match bnd biR sdR (gro bk y.1 o.n) c with
   |some s=>[hX o k y [] s]
   |none=>[hX o k y [(o.n,k,gF c Z7)] Z7,hX o k y [(o.n,k,gF c Z6)] Z6]:=by
  unfold z18 gro;rw[g]
  all_goals (cases bnd biR sdR (bk o.n++List.map (λx:En=>x.2.2) (oz (λe=>decide (e.1=o.n)) y.1)) c<;>rfl)
 rw[j]at hx;have a:∀es b,x=hX o k y es b->(∀n,Cons biR sdR (gro bk x.1 n))->(∃r∈gro bk x.1 o.n,biR r c=Z7/\sdR r=b)->Goes bk (λB=>z18 o (B o.n) k th) y x:=λes b ex co ⟨r,hr,hb,hs⟩=>by refine⟨⟨es,by rw[ex];rfl⟩,co,λB l d=>?_⟩;rw[i,Ul (l o.n) (d o.n r hr) hb,hs,ex];rfl
 cases hb:bnd biR sdR (gro bk y.1 o.n) c with
 |some s=>
  rw[hb]at hx;have ex:=ak.mp hx;obtain⟨r,hr,m,p⟩:=Li hb;have e:gro bk x.1=gro bk y.1:=by rw[ex];show gro bk (y.1++[])=_;rw[ce]
  exact a [] s ex (e▸f) ⟨r,by rw[e];exact hr,m,p⟩
 |none=>
  rw[hb]at hx
  have one:∀b,x=hX o k y [(o.n,k,gF c b)] b->Goes bk (λB=>z18 o (B o.n) k th) y x:=λb ex=>by
   have e:∀n,gro bk x.1 n=gro bk y.1 n++if o.n=n then[gF c b]else[]:=λn=>by
    rw[ex];show gro bk (y.1++[(o.n,k,gF c b)]) n=_;rw[AZ];by_cases h:o.n=n
    .rw[xh h,show oz (λe:En=>decide (e.1=n)) [(o.n,k,gF c b)]=[(o.n,k,gF c b)]from gz (xp h)];rfl
    .rw[xk h,show oz (λe:En=>decide (e.1=n)) [(o.n,k,gF c b)]=[]from g6 (by simpa using h)];rfl
   refine a _ b ex (λn=>?_) ⟨gF c b,by rw[e,xh rfl];exact bp _ (.head _),?_,vP.sf c b⟩
   .rw[e];by_cases h:o.n=n
    .rw[xh h];subst h;exact Um vP (f _) hb
    .rw[xk h,ce];exact f n
   .cases b with
    |true=>rw[vP.t1];exact vP.rf c
    |false=>rw[vP.t2];exact vP.rf c
  rcases ao.mp hx with ex|hx
  .exact one Z7 ex
  .exact one Z6 (ak.mp hx)
theorem LG:∀ts {y x:bC},(∀n,Cons biR sdR (gro bk y.1 n))->x∈openK o (bk o.n) ts [y]->Goes bk (λB u=>openK o (B o.n) ts [u]) y x
 | [],y,x,hy,hx=>by cases ak.mp hx;exact⟨⟨[],(ce _).symm⟩,hy,λ_ _ _=>rfl⟩
 |t::ts,y,x,hy,hx=>by have U7:x∈openK o (bk o.n) ts ([y].flatMap (z18 o (bk o.n) t.2 t.1)):=hx;obtain⟨z,hz,FU⟩:=FT (FR o (bk o.n) ts) U7;rw[l7,qb,ce]at hz;have g1:=U6 hy hz;have g2:=LG ts g1.co FU;have g:=g1.trans g2;refine⟨g.ex,g.co,λB hB hs=>?_⟩;show openK o (B o.n) ts ([([],y.2)].flatMap (z18 o (B o.n) t.2 t.1))=_;obtain⟨e2,FV⟩:=g2.ex;rw[l7,qb,ce,show z18 o (B o.n) t.2 t.1 ([],y.2)=_ from g1.un B hB (λn r hr=>hs n r (by rw[FV,AZ];exact gv _ hr))];exact g2.un B hB hs
theorem LH:∀(rows:List cQ) {y x:bC},(∀n,Cons biR sdR (gro bk y.1 n))->x∈rows.foldl (eL bk ths) [y]->Goes bk (λB u=>rows.foldl (eL B ths) [u]) y x
 | [],y,x,hy,hx=>by cases ak.mp hx;exact⟨⟨[],(ce _).symm⟩,hy,λ_ _ _=>rfl⟩
 |r::rows,y,x,hy,hx=>by
  obtain⟨z,hz,FU⟩:=FT (f:=λl=>rows.foldl (eL bk ths) l) (fold_add bk ths rows) hx
  have g1:Goes bk (λB u=>eL B ths [u] r) y z:=by
   cases r with
   |op o=>exact LG _ hy hz
   |wd n s=>cases ak.mp hz;exact⟨⟨[],(ce _).symm⟩,hy,λ_ _ _=>rfl⟩
   |id k r=>cases ak.mp hz;exact⟨⟨[],(ce _).symm⟩,hy,λ_ _ _=>rfl⟩
  have g2:=LH rows g1.co FU;have g:=g1.trans g2;refine⟨g.ex,g.co,λB hB hs=>?_⟩;show rows.foldl (eL B ths) (eL B ths [([],y.2)] r)=_;obtain⟨e2,FV⟩:=g2.ex;rw[show eL B ths [([],y.2)] r=_ from g1.un B hB (λn r hr=>hs n r (by rw[FV,AZ];exact gv _ hr))];exact g2.un B hB hs
theorem alone (c:∀n,Cons biR sdR (bk n))(hx:x∈run5 bk b a):run5 (gro bk x.1) b a=[([],x.2)]:=by have g:=LH a (λn=>by show Cons biR sdR (bk n++[]);rw[ce];exact c n) hx;exact g.un (gro bk x.1) g.co λ_ _ h=>h
abbrev Th:=P×List Str
def wl (t:Th):D:=.list (t.2.map .str)
def fI (t:Th)(s:Sg):Bool:=qP t.1 t.2 s
def dp:Sg->Nat
 |.at _ _=>1
 |.is _=>1
 |.no a=>dp a+1
 |.an a b=>1+max (dp a) (dp b)
 |.or a b=>1+max (dp a) (dp b)
theorem kG:∀s,aM (cW s)=Z7
 |.at _ _=>rfl
 |.is _=>rfl
 |.no a=>by show(Z7&&(aM (cW a)&&Z7))=Z7;rw[kG a];rfl
 |.an a b=>by show(Z7&&(aM (cW a)&&(aM (cW b)&&Z7)))=Z7;rw[kG a,kG b];rfl
 |.or a b=>by show(Z7&&(aM (cW a)&&(aM (cW b)&&Z7)))=Z7;rw[kG a,kG b];rfl
def kd:Sg->Str
 |.at _ _=>"at"
 |.is _=>"is"
 |.no _=>"not"
 |.an _ _=>"and"
 |.or _ _=>"or"
theorem LI (s:Sg):ixD (cW s) (.int 0)=.ok (.str (kd s)):=by cases s<;>rfl
theorem z1c (h:ρ[i]?=Z9 (Z9 (g,.str a))):Tt [] Φ (.tv (.cmp .Eq (.var i) (.str b))) ρ (decide (a=b)):=aU (z0m (k:=decide (a=b)) (z02 h) fM.e (by show Res.ok (cc (.str a) (.str b))=_;rw[mR])).e rfl
theorem FW (h:Ev [] Φ c ρ (.str a)):Tt [] Φ (.tv (.cmp .Eq c (.str b))) ρ (decide (a=b)):=aU (z0m (k:=decide (a=b)) h fM.e (by show Res.ok (cc (.str a) (.str b))=_;rw[mR])).e rfl
theorem A0:∀k s,dp s<=k->∀{t:Th},PK t.1->lB k [cW s,pk t.1,wl t]=.ok (.fr,.bool (fI t s))
 |0,s,h,t,_=>by cases s<;>simp[dp]at h
 |k+1,s,h,t,ht=>by
  refine dY (eG (AB (v_ix (z02 rfl) z08.e (LI s) rfl)) ?_)
  let R:Rho:=[Z9 (.od,cW s),Z9 (.od,pk t.1),Z9 (.od,wl t),Z9 (.al,.str (kd s))]
  have hx:∀a,dp a<=k->∀{i:Int},ixD (cW s) (.int i)=.ok (cW a)->Vv [] [lB k,kB] (.call 0 "holds" (.cons (.ix (.var 0) (.int i)) (.cons (.var 1) (.cons (.var 2) .nil)))) R (.bool (fI t a)):=λa ha i c=>z0q (z00 (v_ix (z02 rfl) z08.e c (kG a)).e (z00 (z02 rfl) (z00 (z02 rfl) z09))) rfl (A0 k a ha ht) rfl;cases s with
  | «at» n j=>exact z07 (z1d (z1c rfl) (λ_=>z07 (z0f (z0m (z0q (z00 (z02 rfl) (z00 (v_ix (z02 rfl) z08.e rfl rfl).e z09)) rfl (z7r ht n) rfl).e (v_ix (z02 rfl) z08.e rfl rfl).e rfl))) λz=>(xo z rfl).elim)
  |is n=>refine bO (z1c rfl) rfl (z07 (z1d (z1c rfl) (λ_=>z07 (z0f (z0m (v_ix (z02 rfl) z08.e rfl rfl).e (z02 rfl) (AX n t.2)))) λz=>(xo z rfl).elim))
  |no a=>refine bO (z1c rfl) rfl (bO (z1c rfl) rfl (z07 (z1d (z1c rfl) (λ_=>z07 (z0f (v_not (hx a (by simp only[dp]at h;omega) rfl).e rfl))) λz=>(xo z rfl).elim)))
  |an a b=>refine bO (z1c rfl) rfl (bO (z1c rfl) rfl (bO (z1c rfl) rfl (z07 (z1d (z1c rfl) (λ_=>z07 (z0f (v_and (hx a (by simp only[dp]at h;omega) rfl).e λ_=>hx b (by simp only[dp]at h;omega) rfl))) λz=>(xo z rfl).elim))))
  |or a b=>exact bO (z1c rfl) rfl (bO (z1c rfl) rfl (bO (z1c rfl) rfl (bO (z1c rfl) rfl (z07 (z0f (v_or (hx a (by simp only[dp]at h;omega) rfl).e λ_=>hx b (by simp only[dp]at h;omega) rfl))))))
theorem zqb (h:PK th)(n:Str):vL [pk th,.str n]=.ok (.fr,.int (look th n)):=by
 refine dY ?_
 let Q:Res Out->Prop:=λz=>z=.ok (.rt .fr (.int (look th n)))
 show Q _;refine zhi (KD rfl (by decide) (cA th) rfl) (λpre a=>(∀p∈pre,p.1≠n)/\∃b c,a=[Z9 (.od,pk th),Z9 (.od,.str n),b,c]) ⟨nofun,Z8,Z8,rfl⟩ ?_ ?_
 .rintro pre p d a hx ⟨hn,b,c,rfl⟩
  refine⟨_,E7 rfl rfl,?_⟩;have ht:Tt [] [] (.tv (.cmp .Eq (.var 2) (.var 1))) [Z9 (.od,pk th),Z9 (.od,.str n),Z9 (.al,.str p.1),Z9 (.al,.int p.2)] (decide (p.1=n)):=aU (z0m (z02 rfl) (z02 rfl) (by exact congrArg Res.ok (mR p.1 n))).e rfl;by_cases e:p.1=n
  .refine .inr ⟨.fr,.int p.2,z07 (z1d ht (λ_=>z07 (z0f (v_var rfl rfl))) λz=>by rw[xp e]at z;cases z),?_⟩;show _=_;rw[<-e,look,sT h.nd (hx▸bp _ bj)];rfl
  .refine .inl ⟨_,eG (z1d ht (λz=>by rw[xq e]at z;cases z) λ_=>pH) pH,λy f=>?_,_,_,rfl⟩;rcases cr.mp f with z|z
   .exact hn y z
   .rw[ak.mp z];exact e
 .rintro a ⟨hn,b,c,rfl⟩
  show aW _ _ _ _=_;rw[look,z1u λz=>by obtain⟨p,g,e⟩:=au.mp z;exact hn p g e];exact z07 (z0f z08)
theorem U8 (bs:List Bool):((bs.map ZX).any λy=>cc y (.bool Z6))=!bs.all id:=by
 induction bs with
 |nil=>rfl
 |cons b bs a=>rw[aw,jo,a];cases b<;>rfl
theorem LJ (bs:List Bool)(b:Bool):(aG 40 (.bool b)&&dM 40 (bs.map .bool))=true:=az.mpr ⟨rfl,iC.mpr λx hx=>by obtain⟨b,_,rfl⟩:=au.mp hx;rfl⟩
theorem FY (bs:List Bool):cmpD .NotIn (.bool Z6) (.list (bs.map .bool))=.ok (bs.all id):=by
 have e:inD (.bool Z6) (.list (bs.map .bool))=.ok (!bs.all id):=by show(if(aG 40 (.bool Z6)&&dM 40 (bs.map .bool))=Z7 then Res.ok ((bs.map ZX).any λy=>cc y (.bool Z6))else .no)=_;rw[xh (LJ bs Z6),U8]
 show(inD (.bool Z6) (.list (bs.map .bool))>>=λb=>Res.ok (!b))=_;rw[e];show Res.ok (!!_)=_;rw[Bool.not_not]
theorem FZ (bs:List Bool):cmpD .In (.bool Z7) (.list (bs.map .bool))=.ok (bs.any id):=by show(if(aG 40 (.bool Z7)&&dM 40 (bs.map .bool))=Z7 then Res.ok ((bs.map ZX).any λy=>cc y (.bool Z7))else .no)=_;rw[xh (LJ bs Z7),LC]
theorem A7:∀k s,dp s<=k->∀{t:Th},PK t.1->kE k [cW s,pk t.1,wl t]=.ok (.fr,.bool (fI t s))
 |0,s,h,t,_=>by cases s<;>simp[dp]at h
 |k+1,s,h,t,ht=>by
  refine dY ?_;have c:∀{u:Option GD} {b:Str},Tt [] [kE k,vL] (.tv (.cmp .Eq (.ix (.var 0) (.int 0)) (.str b))) [Z9 (.od,cW s),Z9 (.od,pk t.1),Z9 (.od,wl t),u] (decide (kd s=b)):=FW (v_ix (z02 rfl) z08.e (LI s) rfl).e
  have two:∀a b,dp a<=k->dp b<=k->pT (cW s) (Z9 1) Z8=.ok (.tuple [cW a,cW b])->aE [] [kE k,vL] (.comp 1 [1,2] ["_law_part","_law_thing","_law_words"] (.nm 0) (.tv (.sl (.var 0) (.tv (.int 1)) .nil)) .nil (.call 0 "_law_of_thing" (.cons (.var 0) (.cons (.var 1) (.cons (.var 2) .nil))))) [Z9 (.od,cW s),Z9 (.od,pk t.1),Z9 (.od,wl t),Z8]=.ok (.fr,.list ([fI t a,fI t b].map .bool)):=λa b ha hb hs=>by
   obtain⟨g,d⟩:=tK (Κ:=[]) (Φ:=[kE k,vL]) (ρ:=[Z9 (.od,cW s),Z9 (.od,pk t.1),Z9 (.od,wl t),Z8]) (z02 (i:=0) rfl) (AA z08.e) xV hs
   have:=z24 (nt:=1) (js:=[1,2]) (N':=["_law_part","_law_thing","_law_words"]) (tg:=.nm 0) (elt:=.call 0 "_law_of_thing" (.cons (.var 0) (.cons (.var 1) (.cons (.var 2) .nil)))) (λ_=>Z7) (λs=>.bool (fI t s)) (bI d rfl) rfl (λs=>[Z9 (.al,cW s),Z9 (.od,pk t.1),Z9 (.od,wl t)]) (λs _=>tL (kG s)) (λ_ _=>qH) λs hs _=>z0q (z00 (z02 rfl) (z00 (z02 rfl) (z00 (z02 rfl) z09))) rfl (A7 k s (by
    rcases ao.mp hs with rfl|hs
    .exact ha
    .rw[ak.mp hs];exact hb) ht) rfl
   exact this
  cases s with
  | «at» n j=>exact z07 (z1d c (λ_=>z07 (z0f (z0m (z0q (z00 (z02 rfl) (z00 (v_ix (z02 rfl) z08.e rfl rfl).e z09)) rfl (zqb ht n) rfl).e (v_ix (z02 rfl) z08.e rfl rfl).e rfl))) λz=>(xo z rfl).elim)
  |is n=>refine bO c rfl (z07 (z1d c (λ_=>z07 (z0f (z0m (v_ix (z02 rfl) z08.e rfl rfl).e (z02 rfl) (AX n t.2)))) λz=>(xo z rfl).elim))
  |no a=>refine bO c rfl (bO c rfl (z07 (z1d c (λ_=>z07 (z0f (v_not (z0q (z00 (v_ix (z02 rfl) z08.e rfl (kG a)).e (z00 (z02 rfl) (z00 (z02 rfl) z09))) rfl (A7 k a (by simp only[dp]at h;omega) ht) rfl).e rfl))) λz=>(xo z rfl).elim)))
  |an a b=>refine bO c rfl (bO c rfl (bO c rfl (eG (qI (two a b (by simp only[dp]at h;omega) (by simp only[dp]at h;omega) rfl) rfl) (z07 (z1d c (λ_=>z07 (z0f (z0m eV.e (z02 rfl) ?_))) λz=>(xo z rfl).elim)))));rw[FY];show Res.ok (_&&(_&&Z7))=_;rw[t8];rfl
  |or a b=>refine bO c rfl (bO c rfl (bO c rfl (eG (qI (two a b (by simp only[dp]at h;omega) (by simp only[dp]at h;omega) rfl) rfl) (bO c rfl (z07 (z0f (z0m eV.e (z02 rfl) ?_)))))));rw[FZ];show Res.ok (_||(_||Z6))=_;rw[pd];rfl
section
inductive Ak where
 |so (s:Sg)
 |al (s:Sg)
 |no (a:Ak)
 |an (a b:Ak)
 |or (a b:Ak)
def bP:Ak->D
 |.so s=>.tuple [.str "some",cW s]
 |.al s=>.tuple [.str "all",cW s]
 |.no a=>.tuple [.str "not",bP a]
 |.an a b=>.tuple [.str "and",bP a,bP b]
 |.or a b=>.tuple [.str "or",bP a,bP b]
def lD (ts:List Th):Ak->Bool
 |.so s=>ts.any λt=>fI t s
 |.al s=>ts.all λt=>fI t s
 |.no a=>!lD ts a
 |.an a b=>lD ts a&&lD ts b
 |.or a b=>lD ts a||lD ts b
def da:Ak->Nat
 |.so _=>1
 |.al _=>1
 |.no a=>da a+1
 |.an a b=>1+max (da a) (da b)
 |.or a b=>1+max (da a) (da b)
def sk:Ak->Prop
 |.so s=>dp s<=3
 |.al s=>dp s<=3
 |.no a=>sk a
 |.an a b=>sk a/\sk b
 |.or a b=>sk a/\sk b
theorem nM:∀s,aM (bP s)=Z7
 |.so s=>by show(Z7&&(aM (cW s)&&Z7))=Z7;rw[kG s];rfl
 |.al s=>by show(Z7&&(aM (cW s)&&Z7))=Z7;rw[kG s];rfl
 |.no a=>by show(Z7&&(aM (bP a)&&Z7))=Z7;rw[nM a];rfl
 |.an a b=>by show(Z7&&(aM (bP a)&&(aM (bP b)&&Z7)))=Z7;rw[nM a,nM b];rfl
 |.or a b=>by show(Z7&&(aM (bP a)&&(aM (bP b)&&Z7)))=Z7;rw[nM a,nM b];rfl
def ka:Ak->Str
 |.so _=>"some"
 |.al _=>"all"
 |.no _=>"not"
 |.an _ _=>"and"
 |.or _ _=>"or"
theorem LK (s:Ak):ixD (bP s) (.int 0)=.ok (.str (ka s)):=by cases s<;>rfl
theorem LL:∀a:List Th,zipD (a.map λt=>pk t.1) (a.map wl)=a.map λt=>.tuple [pk t.1,wl t]
 | []=>rfl
 |t::a=>by rw[aw,aw,zipD,LL a];rfl
theorem F1 {a:Type}(f:a->Bool):∀l:List a,allB (l.map λx=>ZX (f x))=Z9 (l.map f)
 | []=>rfl
 |x::l=>by show(allB (l.map λx=>ZX (f x))).map _=_;rw[F1 f l];rfl
theorem U9 {a:Type}(f:a->Bool)(l:List a):aggD "any" Z7 (l.map λx=>ZX (f x))=.ok (.bool (l.any f)):=by show Res.eR ((allB (l.map λx=>ZX (f x))).map λbs=>ZX (bs.any id))=_;rw[F1];show Res.ok (ZX ((l.map f).any id))=_;rw[qr];rfl
theorem U' {α:Type}(f:α->Bool)(l:List α):aggD "all" Z7 (l.map λx=>ZX (f x))=.ok (.bool (l.all f)):=by show Res.eR ((allB (l.map λx=>ZX (f x))).map λbs=>ZX (bs.all id))=_;rw[F1];show Res.ok (ZX ((l.map f).all id))=_;rw[nr];rfl
theorem LM (t:Th):eD (.tp [i,j]) (gJ (.tuple [pk t.1,wl t]) .al,.tuple [pk t.1,wl t]) ρ=.ok ((ρ.set i (Z9 (.al,pk t.1))).set j (Z9 (.al,wl t))):=by
 have e:gJ (.tuple [pk t.1,wl t]) .al=.al:=by show(if(aM (pk t.1)&&(Z6&&Z7))=Z7 then G.fr else .al)=_;rw[Bool.false_and,rj];rfl
 rw[e];show Res.eR (Z9 ((ρ.set i (Z9 (z17 (gJ (pk t.1) .al,pk t.1)))).set j (Z9 (z17 (gJ (wl t) .al,wl t)))))=_;rw[mL (cA _)];rfl
theorem A8 (c:Φ[1]?=Z9 F)(d:∀t,PK t.1->F [cW s,pk t.1,wl t]=.ok (.fr,.bool (fI t s))){a:List Th}(g:∀t∈a,PK t.1)(hl:a.length<=10)(h:ixD x (.int 1)=.ok (cW s)):aE [] Φ (.comp 2 [0] N (.tp [0,1]) (.zip (.var 1) (.var 2)) .nil (.call 1 f (.cons (.ix (.var 2) (.int 1)) (.cons (.var 0) (.cons (.var 1) .nil))))) [Z9 (.od,x),Z9 (.od,.list (a.map λt=>pk t.1)),Z9 (.od,.list (a.map wl)),u]=.ok (.fr,.list (a.map λt=>.bool (fI t s))):=by have b:=D9 (Κ:=[]) (Φ:=Φ) (ρ:=[Z9 (.od,x),Z9 (.od,.list (a.map λt=>pk t.1)),Z9 (.od,.list (a.map wl)),u]) (z02 (i:=1) rfl) (z02 (i:=2) rfl) (vG (by grind)) (vG (by grind));rw[LL]at b;have:=z24 (nt:=2) (js:=[0]) (N':=N) (tg:=.tp [0,1]) (elt:=.call 1 f (.cons (.ix (.var 2) (.int 1)) (.cons (.var 0) (.cons (.var 1) .nil)))) (λ_=>Z7) (λt=>.bool (fI t s)) b rfl (λt=>[Z9 (.al,pk t.1),Z9 (.al,wl t),Z9 (.od,x)]) (λt _=>LM t) (λ_ _=>qH) λt ht _=>z0q (z00 (v_ix (z02 rfl) z08.e h (kG s)).e (z00 (z02 rfl) (z00 (z02 rfl) z09))) c (d t (g t ht)) rfl;rw[gq.mpr (λ_ _=>rfl)]at this;exact this
variable {ts:List Th}
theorem LN (c:∀t∈ts,PK t.1)(hl:ts.length<=10):∀k a,da a<=k->sk a->nI k [bP a,.list (ts.map λt=>pk t.1),.list (ts.map wl)]=.ok (.fr,.bool (lD ts a))
 |0,a,h,_=>by cases a<;>simp[da]at h
 |k+1,a,h,hs=>by
  refine dY (eG (AB (v_ix (z02 rfl) z08.e (LK a) rfl)) ?_)
  let R:Rho:=[Z9 (.od,bP a),Z9 (.od,.list (ts.map λt=>pk t.1)),Z9 (.od,.list (ts.map wl)),Z9 (.al,.str (ka a))]
  have hx:∀b,da b<=k->sk b->∀{i:Int},ixD (bP a) (.int i)=.ok (bP b)->Vv [] [nI k,lB 3] (.call 0 "so" (.cons (.ix (.var 0) (.int i)) (.cons (.var 1) (.cons (.var 2) .nil)))) R (.bool (lD ts b)):=λb hb hk i d=>z0q (z00 (v_ix (z02 rfl) z08.e d (nM b)).e (z00 (z02 rfl) (z00 (z02 rfl) z09))) rfl (LN c hl k b hb hk) rfl;cases a with
  |so s=>exact z07 (z1d (z1c rfl) (λ_=>z07 (z0f (sW (w:=(Z7,ts.map λt=>.bool (fI t s))) (Ev.of (A8 rfl (λt ht=>A0 3 s hs ht) c hl rfl)) rfl (U9 (λt=>fI t s) ts) rfl))) λz=>(xo z rfl).elim)
  |al s=>exact bO (z1c rfl) rfl (z07 (z1d (z1c rfl) (λ_=>z07 (z0f (sW (w:=(Z7,ts.map λt=>.bool (fI t s))) (Ev.of (A8 rfl (λt ht=>A0 3 s hs ht) c hl rfl)) rfl (U' (λt=>fI t s) ts) rfl))) λz=>(xo z rfl).elim))
  |no a=>refine bO (z1c rfl) rfl (bO (z1c rfl) rfl (z07 (z1d (z1c rfl) (λ_=>z07 (z0f (v_not (hx a (by simp only[da]at h;omega) hs rfl).e rfl))) λz=>(xo z rfl).elim)))
  |an a b=>refine bO (z1c rfl) rfl (bO (z1c rfl) rfl (bO (z1c rfl) rfl (z07 (z1d (z1c rfl) (λ_=>z07 (z0f (v_and (hx a (by simp only[da]at h;omega) hs.1 rfl).e λ_=>hx b (by simp only[da]at h;omega) hs.2 rfl))) λz=>(xo z rfl).elim))))
  |or a b=>exact bO (z1c rfl) rfl (bO (z1c rfl) rfl (bO (z1c rfl) rfl (bO (z1c rfl) rfl (z07 (z0f (v_or (hx a (by simp only[da]at h;omega) hs.1 rfl).e λ_=>hx b (by simp only[da]at h;omega) hs.2 rfl))))))
theorem A9 (d:∀t∈ts,PK t.1)(hl:ts.length<=10):∀k a,da a<=k->sk a->hF k [bP a,.list (ts.map λt=>pk t.1),.list (ts.map wl)]=.ok (.fr,.bool (lD ts a))
 |0,a,h,_=>by cases a<;>simp[da]at h
 |k+1,a,h,hs=>by
  refine dY ?_;have c:∀{u:Option GD} {b:Str},Tt [] [hF k,kE 3] (.tv (.cmp .Eq (.ix (.var 0) (.int 0)) (.str b))) [Z9 (.od,bP a),Z9 (.od,.list (ts.map λt=>pk t.1)),Z9 (.od,.list (ts.map wl)),u] (decide (ka a=b)):=FW (v_ix (z02 rfl) z08.e (LK a) rfl).e
  have two:∀x y,da x<=k->da y<=k->sk x->sk y->pT (bP a) (Z9 1) Z8=.ok (.tuple [bP x,bP y])->aE [] [hF k,kE 3] (.comp 1 [1,2] ["_law_part","_law_things","_law_holding"] (.nm 0) (.tv (.sl (.var 0) (.tv (.int 1)) .nil)) .nil (.call 0 "_law_so" (.cons (.var 0) (.cons (.var 1) (.cons (.var 2) .nil))))) [Z9 (.od,bP a),Z9 (.od,.list (ts.map λt=>pk t.1)),Z9 (.od,.list (ts.map wl)),Z8]=.ok (.fr,.list ([lD ts x,lD ts y].map .bool)):=λx y hx f j l hs=>by
   obtain⟨g,m⟩:=tK (Κ:=[]) (Φ:=[hF k,kE 3]) (ρ:=[Z9 (.od,bP a),Z9 (.od,.list (ts.map λt=>pk t.1)),Z9 (.od,.list (ts.map wl)),Z8]) (z02 (i:=0) rfl) (AA z08.e) xV hs
   have:=z24 (nt:=1) (js:=[1,2]) (N':=["_law_part","_law_things","_law_holding"]) (tg:=.nm 0) (elt:=.call 0 "_law_so" (.cons (.var 0) (.cons (.var 1) (.cons (.var 2) .nil)))) (λ_=>Z7) (λb=>.bool (lD ts b)) (bI m rfl) rfl (λb=>[Z9 (.al,bP b),Z9 (.od,.list (ts.map λt=>pk t.1)),Z9 (.od,.list (ts.map wl))]) (λb _=>tL (nM b)) (λ_ _=>qH) λb hb _=>z0q (z00 (z02 rfl) (z00 (z02 rfl) (z00 (z02 rfl) z09))) rfl (by
    rcases ao.mp hb with rfl|hb
    .exact A9 d hl k _ hx j
    .rw[ak.mp hb];exact A9 d hl k _ f l) rfl
   exact this
  cases a with
  |so s=>refine z07 (z1d c (λ_=>z07 (z0f (z0m eV.e (Ev.of (A8 rfl (λt ht=>A7 3 s hs ht) d hl rfl)) ?_))) λz=>(xo z rfl).elim);rw[show(ts.map λt=>ZX (fI t s))=(ts.map λt=>fI t s).map .bool from dg.symm,FZ,qr];rfl
  |al s=>refine bO c rfl (z07 (z1d c (λ_=>z07 (z0f (z0m eV.e (Ev.of (A8 rfl (λt ht=>A7 3 s hs ht) d hl rfl)) ?_))) λz=>(xo z rfl).elim));rw[show(ts.map λt=>ZX (fI t s))=(ts.map λt=>fI t s).map .bool from dg.symm,FY,nr];rfl
  |no a=>refine bO c rfl (bO c rfl (z07 (z1d c (λ_=>z07 (z0f (v_not (z0q (z00 (v_ix (z02 rfl) z08.e rfl (nM a)).e (z00 (z02 rfl) (z00 (z02 rfl) z09))) rfl (A9 d hl k a (by simp only[da]at h;omega) hs) rfl).e rfl))) λz=>(xo z rfl).elim)))
  |an a b=>refine bO c rfl (bO c rfl (bO c rfl (eG (qI (two a b (by simp only[da]at h;omega) (by simp only[da]at h;omega) hs.1 hs.2 rfl) rfl) (z07 (z1d c (λ_=>z07 (z0f (z0m eV.e (z02 rfl) ?_))) λz=>(xo z rfl).elim)))));rw[FY];show Res.ok (_&&(_&&Z7))=_;rw[t8];rfl
  |or a b=>refine bO c rfl (bO c rfl (bO c rfl (eG (qI (two a b (by simp only[da]at h;omega) (by simp only[da]at h;omega) hs.1 hs.2 rfl) rfl) (bO c rfl (z07 (z0f (z0m eV.e (z02 rfl) ?_)))))));rw[FZ];show Res.ok (_||(_||Z6))=_;rw[pd];rfl
end
open PySem.Spec PyProof.Rows L2
namespace L65
abbrev i1 (k:Int):W:=.aY (.int k)
abbrev a2 (a b:W):W:=.cons a (.cons b .nil)
abbrev a3 (a b c:W):W:=.cons a (a2 b c)
abbrev a4 (a b c d:W):W:=.cons a (a3 b c d)
abbrev LO:W:=.lc 1 [] ["words"] (.nm 0) Z6 (.ix (.raw 0) (i1 1)) .nil (.mO (.raw 0))
def ct:WS:=.seq (.asg 4 LO) (.seq (.ext (.mM (.raw 4) (.raw 2)) (.raw 3)) (.seq (.ret (.tup (.cons (.aY (.bin .Add (.ix (.var 0) (.int 0)) (.var 1))) (.cons (.raw 4) .nil)))) .nil))
abbrev LP:C:=.call 1 "binding" (.cons (.bin .Add (.var 1) (.comp 1 [5] ["entry","name"] (.nm 0) (.tv (.ix (.var 4) (.int 0))) (.tv (.cmp .Eq (.ix (.var 0) (.int 0)) (.var 1))) (.ix (.var 0) (.int 2)))) (.cons (.var 6) .nil))
abbrev LQ (s:Str):W:=.aY (.lst (.cons (.tup (.cons (.var 5) (.cons (.var 2) (.cons (.call 0 "fullest" (.cons (.var 6) (.cons (.str s) .nil))) .nil)))) .nil))
abbrev F2 (e n:W):W:=.cP 0 (a4 (.raw 4) e (.raw 2) n)
def wy:WS:=.seq (.asg 5 (.aY (.ix (.var 0) (.int 1)))) (.seq (.asg 6 (.aY (.call 2 "case_of" (.cons (.var 0) (.cons (.var 3) (.cons (.ix (.ix (.var 4) (.int 1)) (.var 2)) .nil))))))
 (.seq (.asg 7 (.aY LP))
 (.seq (.aZ (.ti Z7 (.raw 7)) (.seq (.ret (.lst (.cons (F2 (.aY (.lst .nil)) (.aY (.jN (.tv (.cmp .Eq (.ix (.var 7) (.int 0)) (.str "for"))) (.lst (.cons (.var 5) .nil)) (.lst .nil)))) .nil))) .nil) .nil)
 (.seq (.ret (.lst (a2 (F2 (LQ "for") (.aY (.lst (.cons (.var 5) .nil)))) (F2 (LQ "against") (.aY (.lst .nil)))))) .nil))))
abbrev Va:WS:=.seq (.gZ 7 (.raw 3) (.seq (.ext (.raw 6) (.cP 0 (.cons (.raw 0) (a4 (.raw 1) (.raw 4) (.raw 5) (.raw 7))))) .nil)) (.seq (.asg 3 (.raw 6)) .nil)
def wo:WS:=.seq (.aV (.tp [4,5]) (.enum (.var 2)) (.seq (.asg 6 (.lst .nil)) Va)) (.seq (.ret (.raw 3)) .nil)
abbrev kn:C:=.comp 1 [0] ["thing","act"] (.nm 0) (.tv (.var 2)) .nil (.call 0 "of_facts" (.cons (.var 1) (.cons (.var 0) .nil)))
abbrev Vb:W:=.cP 0 (a4 (.raw 5) (.aY (.mt "get" (.var 1) (.cons (.ix (.var 5) (.int 1)) (.cons (.lst .nil) .nil)))) (.raw 3) (.raw 4))
abbrev Vc:W:=.aY (.comp 1 [5,3] ["reading","row","known"] (.nm 0) (.tv (.var 4)) .nil (.call 2 "with_word" (.cons (.var 1) (.cons (.var 2) (.cons (.var 0) .nil)))))
abbrev Vd:WS:=.seq (.aZ (.tp (.tv (.cmp .Eq (.ix (.var 5) (.int 0)) (.str "word")))) (.seq (.asg 4 Vc) .nil) (.seq (.aZ (.tp (.tv (.cmp .Eq (.ix (.var 5) (.int 0)) (.str "open")))) (.seq (.asg 4 Vb) .nil) .nil) .nil)) .nil
def rg:WS:=.seq (.aZ (.tc .Gt (.aY (.call 1 "open_uses" (.cons (.var 0) (.cons (.bi "len" (.cons (.var 2) .nil)) .nil)))) (.gi 0)) (.seq (.yR .bad) .nil) .nil)
 (.seq (.asg 3 (.aY kn))
 (.seq (.asg 4 (.lst (.cons (.tup (a2 (.lst .nil) (.aY (.comp 1 [] ["thing"] (.nm 0) (.tv (.var 3)) .nil (.lst .nil))))) .nil)))
 (.seq (.iK (.nm 5) (.raw 0) Vd)
 (.seq (.ret (.raw 4)) .nil))))
abbrev A' (s:Str)(x:W):WS:=.seq (.ret (.tup (a2 (.aY (.str s)) x))) .nil
abbrev Ve:WS:=.seq (.aZ (.tp (.tv (.call 1 "so" (.cons (.var 4) (.cons (.var 5) (.cons (.ix (.var 8) (.int 1)) .nil)))))) (.seq (.app (.raw 6) (.raw 8)) .nil) (.seq (.app (.raw 7) (.raw 8)) .nil)) .nil
abbrev LR:WS:=.seq (.aZ (.tp (.tv (.cmp .Eq (.var 7) (.lst .nil)))) (A' "must" (.lst .nil)) .nil) (.seq (.aZ (.tp (.tv (.cmp .Eq (.var 6) (.lst .nil)))) (A' "never" (.lst .nil)) .nil) (A' "open" (.lst (a2 (.mM (.raw 6) (i1 0)) (.mM (.raw 7) (i1 0))))))
def st:WS:=.seq (.asg 4 (.aY (.call 2 "asking_of" (.cons (.var 0) (.cons (.var 3) .nil))))) (.seq (.asg 5 (.aY kn)) (.seq (.asg 6 (.lst .nil)) (.seq (.asg 7 (.lst .nil)) (.seq (.gZ 8 (.cP 0 (a3 (.raw 0) (.raw 1) (.raw 2))) Ve) LR))))
def dn:WS:=.seq (.aZ (.tp (.tv (.var 1))) (.seq (.ret (.lst (a2 (.ab (.raw 0)) (i1 0)))) .nil) .nil) (.seq (.ret (.lst (a2 (.aY (.bin .Mod (.var 0) (.int 2147483629))) (i1 1)))) .nil)
def dr:WS:=.seq (.asg 2 (.aY (.ix (.var 0) (.int 0))))
 (.seq (.aZ (.tp (.tv (.cmp .Eq (.ix (.var 0) (.int 1)) (.int 0)))) (.seq (.put (.raw 0) (i1 0) (.aY (.bin .FloorDiv (.var 2) (.var 1)))) (.seq (.ret (.aY (.bin .Mod (.var 2) (.var 1)))) .nil)) .nil)
 (.seq (.put (.raw 0) (i1 0) (.aY (.bin .Mod (.bin .Add (.bin .Mult (.var 2) (.int 69621)) (.int 48271)) (.int 2147483629))))
 (.seq (.ret (.aY (.bin .Mod (.bin .FloorDiv (.bin .Mod (.bin .Mult (.ix (.var 0) (.int 0)) (.int 16807)) (.int 2147483647)) (.int 64)) (.var 1)))) .nil)))
abbrev big:C:=.bin .Add (.bin .Pow (.int 10) (.int 30)) (.int 1)
abbrev dw (n:W):W:=.cP 0 (a2 (.raw 0) n)
def cn:WS:=.seq (.aZ (.qK (.tp (.tv (.var 1))) (.tc .Eq (dw (i1 2)) (i1 0))) (.seq (.ret (dw (i1 3))) .nil) .nil)
 (.seq (.aZ (.tp (.tv (.cmp .Eq (.ix (.var 0) (.int 1)) (.int 0)))) (.seq (.ret (dw (.aY big))) .nil) .nil)
 (.seq (.asg 2 (i1 0)) (.seq (.aV (.nm 3) (.kM (.cons (.int 4) .nil)) (.seq (.asg 2 (.bin .Add (.aY (.bin .Mult (.var 2) (.int 100000007))) (dw (i1 33554432)))) .nil))
 (.seq (.ret (.aY (.bin .Mod (.var 2) big))) .nil))))
abbrev Vf:WS:=.seq (.asg 5 (.cP 0 (a2 (.raw 1) (.raw 2)))) (.seq (.aZ (.tp (.and (.tv (.cmp .Gt (.var 5) (.int 0))) (.tv (.cmp .Eq (.ix (.var 4) (.int 0)) (.str "w"))))) (.seq (.asg 5 (i1 1)) .nil) .nil) (.seq (.aZ (.tp (.tv (.cmp .Gt (.var 5) (.int 0)))) (.seq (.app (.raw 3) (.aY (.tup (.cons (.var 4) (.cons (.var 5) .nil))))) .nil) .nil) .nil))
def pc:WS:=.seq (.asg 3 (.lst .nil)) (.seq (.iK (.nm 4) (.raw 0) Vf) (.seq (.ret (.aY (.gO "tuple" (.tv (.var 3))))) .nil))
abbrev gE (j:Nat):WS:=.seq (.put (.raw 2) (.raw 3) (.aY (.bin .Add (.mt "get" (.var 2) (.cons (.var 3) (.cons (.lst .nil) .nil))) (.lst (.cons (.var j) .nil))))) .nil
def en:WS:=.seq (.asg 2 .dR) (.seq (.jZ (.tp [3,4]) 0 (.seq (.put (.raw 2) (.raw 3) (.mO (.raw 4))) .nil)) (.seq (.aV (.tp [3,5,6]) (.tv (.ix (.var 1) (.int 0))) (gE 6)) (.seq (.ret (.raw 2)) .nil)))
def pu:WS:=.seq (.asg 2 .dR) (.seq (.fork 3 0 (.seq (.put (.raw 2) (.raw 3) (.mO (.vH (.raw 0) (.raw 3)))) .nil)) (.seq (.aV (.tp [3,4,5]) (.tv (.ix (.var 1) (.int 0))) (gE 5)) (.seq (.ret (.raw 2)) .nil)))
abbrev F5 (k:Int):W:=.cP 1 (a3 (.aY (.gO "sorted" (.tv (.ix (.var 1) (.int k))))) (.raw 0) (.raw 2))
abbrev Vg:W:=.lc 1 [0] ["_law_pair","_law_drawn_here"] (.nm 0) Z6 (.aY (.ix (.var 6) (.var 7))) (.tc .Eq (.cP 0 (a2 (.raw 1) (i1 2))) (i1 0)) (.raw 0)
abbrev Vh:W:=.tp (.tv (.cmp .NotIn (.bl Z7) (.comp 1 [9] ["_law_two","_law_one"] (.nm 0) (.tv (.var 3)) .nil (.call 0 "_law_against" (.cons (.var 1) (.cons (.var 0) .nil))))))
abbrev LS:WS:=.seq (.asg 5 (F5 2)) (.seq (.asg 6 (.tup (a2 (.raw 5) (F5 3)))) (.seq (.asg 7 (dw (i1 2))) (.seq (.asg 8 (.yO Vg))
 (.seq (.asg 9 (.aY (.tup (.cons (.var 6) (.cons (.ix (.lst (.cons (.str "for") (.cons (.str "against") .nil))) (.var 7)) (.cons (.var 8) .nil))))))
 (.seq (.aZ Vh (.seq (.app (.raw 3) (.raw 9)) .nil) .nil) .nil)))))
def bo:WS:=.seq (.asg 3 (.lst .nil)) (.seq (.j' 4 (dw (i1 5)) LS) (.seq (.ret (.raw 3)) .nil))
abbrev vQ (n:Str)(k:Int)(c:C):C:=.rep (.cons (.tup (.cons (.str n) (.cons (.int k) .nil))) .nil) (.bin .Mod c (.int 2))
abbrev Vi:WS:=.seq (.asg 4 (.cP 0 (a2 (.raw 1) (i1 8))))
 (.seq (.asg 5 (.aY (.bin .Add (.bin .Add (vQ "other" 1 (.var 4)) (vQ "wlate" 2 (.bin .FloorDiv (.var 4) (.int 2)))) (vQ "wopen" 5 (.bin .FloorDiv (.var 4) (.int 4))))))
 (.seq (.app (.raw 2) (.aY (.bin .Add (.var 3) (.gO "tuple" (.tv (.var 5)))))) .nil))
def dd:WS:=.seq (.asg 2 (.lst .nil)) (.seq (.aV (.nm 3) (.tv (.var 0)) Vi) (.seq (.ret (.raw 2)) .nil))
abbrev rF:WS:=.seq (.ret (.aY (.bl Z6))) .nil
abbrev Vj:WS:=.seq (.asg 8 (.aY (.ix (.var 6) (.bin .Mod (.bin .Add (.var 4) (.var 7)) (.bi "len" (.cons (.var 6) .nil))))))
 (.seq (.asg 9 (.cP 0 (a4 (.raw 0) (.raw 1) (.raw 5) (.aY (.ix (.var 8) (.int 1))))))
 (.seq (.asg 10 (.aY (.call 0 "_law_due" (.cons (.ix (.var 8) (.int 2)) (.cons (.var 2) (.cons (.var 3) .nil))))))
 (.seq (.aZ (.qK (.tp (.tv (.cmp .NotEq (.var 9) (.var 10)))) (.tc .NotEq (.rp (.raw 9)) (.rp (.raw 10)))) rF .nil)
 (.seq (.app (.mM (.raw 9) (i1 1)) (i1 1)) .nil))))
def to:WS:=.seq (.asg 6 (.aY (.comp 1 [] ["_law_row"] (.nm 0) (.tv (.var 0)) (.tv (.cmp .Eq (.ix (.var 0) (.int 0)) (.str "claim"))) (.var 0)))) (.seq (.aV (.nm 7) (.kM (.cons (.bin .Mult (.int 2) (.bi "len" (.cons (.var 6) .nil))) .nil)) Vj) (.seq (.ret (.aY (.bl Z7))) .nil))
abbrev ca (k:Int):C:=.call 0 "_law_cell_at" (.cons (.var 0) (.cons (.int k) .nil))
abbrev tP (k:Int):W:=.cP 5 (a2 (.aY (ca k)) (.raw 2))
abbrev Vk:W:=.vI Z7 (.lst (a3 (.raw 3) (.raw 7) (.raw 8))) (.raw 9)
abbrev fk:W:=.mM (.raw 10) (.raw 12)
abbrev LU (b f:W)(m:Int):W:=.yM (.cP 0 (.cons (.raw 3) (.cons b (a4 (.raw 4) f (.aY (.bin .Mod (.var 6) (.int m))) (.raw 8)))))
abbrev LV:WS:=.aV (.nm 5) (.tv (.sl (.var 0) (.tv (.int 3)) (.tv (.bin .Add (.int 3) (.bin .Mod (.bin .FloorDiv (ca 0) (.int 3)) (.int 4)))))) (.seq (.app (.raw 4) (.cP 7 (a3 (.aY (.lst (.cons (.str "fa") (.cons (.str "fb") (.cons (.str "fc") .nil))))) (.cP 5 (a2 (.raw 5) (.raw 2))) (.raw 1)))) .nil)
abbrev LW:WS:=.seq (.asg 13 (.cP 3 (a2 (.raw 7) fk)))
 (.seq (.aZ (.qK (.vI Z7 (.raw 13) (.cP 2 (a2 (.raw 7) fk))) Vk) rF .nil)
 (.seq (.asg 14 (.lst (.cons (.tup (a2 (.lst .nil) (.mM fk (i1 1)))) .nil)))
 (.seq (.aZ (.qK (.tc .NotEq (.cP 1 (a3 (.raw 3) (.raw 13) (.raw 8))) (.raw 14)) (.not (LU (.raw 13) (.raw 14) 3))) rF .nil)
 (.seq (.app (.vH (.raw 13) (.aY (.str "wopen"))) (i1 1)) (.seq (.yQ (.raw 13)) .nil)))))
abbrev F6:WS:=.seq (.asg 10 (.cP 1 (a3 (.raw 3) (.raw 7) (.raw 8)))) (.seq (.aZ (.not (LU (.raw 7) (.raw 10) 4)) rF .nil)
 (.seq (.asg 11 (.aY (.bin .Add (.int 1) (.bin .FloorDiv (.bi "len" (.cons (.var 10) .nil)) (.int 4)))))
 (.seq (.aV (.nm 12) (.kM (.cons (.bin .Mod (.var 6) (.var 11)) (.cons (.bi "len" (.cons (.var 10) .nil)) (.cons (.var 11) .nil)))) LW)
 (.seq (.ret (.yN Z6 (.lst (a3 (.raw 3) (.raw 7) (.raw 8))) (.raw 9))) .nil))))
def lw:WS:=.seq (.asg 1 (.aY (.cmp .Gt (.bin .Mod (ca 0) (.int 3)) (.int 0)))) (.seq (.asg 2 (.aY (.cmp .Eq (.bin .Mod (ca 2) (.int 2)) (.int 1))))
 (.seq (.asg 3 (.cP 9 (.cons (.cP 8 (a2 (tP 1) (i1 4))) .nil)))
 (.seq (.asg 4 (.lst .nil)) (.seq LV (.seq (.asg 6 (.aY (.gO "sum" (.tv (.sl (.var 0) .nil (.tv (.int 63)))))))
 (.seq (.asg 7 (.AH "wopen" (.cP 6 (a3 (tP 7) (.aY (.ix (.var 3) (.int 3))) (.raw 1)))))
 (.seq (.aZ (.tp (.tv (.cmp .Gt (.bin .Mod (.var 6) (.int 3)) (.int 0)))) (.seq (.put (.raw 7) (.aY (.str "wrude")) (.cP 6 (a3 (tP 8) (.aY (.ix (.var 3) (.int 5))) (.raw 1)))) .nil) .nil)
 (.seq (.asg 8 (.cP 4 (a2 (.raw 4) (tP 9))))
 (.seq (.asg 9 (.lst (a3 (.mO (.raw 3)) (.cP 2 (a2 (.raw 7) (.tup (a2 (.lst .nil) (.lst .nil))))) (.mO (.raw 8))))) F6)))))))))
end L65
def cX (H:Hp):List Addr->List (List Str)->Prop
 | [],[]=>True
 |w::ws,x::xs=>H w=Z9 (.lst (x.map V.str))/\cX H ws xs
 |_,_=>False
theorem cX.len:∀{ws:List Addr} {xs:List (List Str)},cX H ws xs->ws.length=xs.length
 | [],[],_=>rfl
 |_::_,_::_,h=>congrArg (· +1) (cX.len h.2)
theorem cX.keep:∀{ws:List Addr} {xs:List (List Str)},cX H ws xs->(∀w∈ws,∀o,H w=Z9 o->H' w=Z9 o)->cX H' ws xs
 | [],[],_,_=>trivial
 |w::ws,_::_,h,k=>⟨k w (.head _) _ h.1,cX.keep h.2 λv hv=>k v (.tail _ hv)⟩
theorem cX.app:∀{ws:List Addr} {a:List (List Str)},cX H ws a->H w=Z9 (.lst (x.map V.str))->cX H (ws++[w]) (a++[x])
 | [],[],_,h=>⟨h,trivial⟩
 |_::_,_::_,h,k=>⟨h.1,cX.app h.2 k⟩
theorem cX.there:∀{ws:List Addr} {b:List (List Str)},cX H ws b->∀w∈ws,∃l,H w=Z9 (.lst l)
 | [],[],_,_,h=>by cases h
 |w::ws,x::b,h,v,a=>by
  rcases ao.mp a with rfl|a
  .exact⟨_,h.1⟩
  .exact cX.there h.2 v a
theorem cX.set:∀{ws:List Addr} {a:List (List Str)},cX H ws a->ws.Nodup->∀w,ws[k]?=Z9 w->cX (upd H w (.lst (y.map V.str))) ws (a.set k y)
 | [],[],_,_,_,e=>by cases e
 |w::ws,x::a,h,nd,v,e=>by
  obtain⟨b,d⟩:=ci.mp nd;cases k with
  |zero=>cases e;exact⟨aO,cX.keep h.2 λu hu o e=>by rw[aA (λz=>by rw[z]at hu;exact b hu)];exact e⟩
  |succ k=>have e:ws[k]?=Z9 v:=e;have c:=bn e;exact⟨by rw[aA (λz=>by rw[<-z]at c;exact b c)];exact h.1,cX.set h.2 d v e⟩
theorem cX.at {k:Nat}:∀{ws:List Addr} {a:List (List Str)},cX H ws a->∀w,ws[k]?=Z9 w->∃x,a[k]?=Z9 x/\H w=Z9 (.lst (x.map V.str))
 | [],[],_,_,e=>by cases e
 |w::ws,x::a,h,v,e=>by
  cases k with
  |zero=>cases e;exact⟨x,rfl,h.1⟩
  |succ k=>exact cX.at h.2 v e
def dI (x:List Str):D:=.list (x.map .str)
def Ba (hs:List (List Str)):Prop:=∀x∈hs,∀s∈x,Z2 s=Z7
theorem LX {K:Z5}:∀{x:List Str},(∀s∈x,Z2 s=Z7)->Reps K H B (x.map V.str) (x.map .str)
 | [],_=>rfl
 |s::x,h=>⟨.str s,x.map V.str,rfl,⟨rfl,h s (.head _)⟩,LX λt ht=>h t (.tail _ ht)⟩
theorem zs0 {K:Z5}{O:Type}{L:List O}{e:O->D}{f:O->List Str}{g:TG}{tc:TT}{X:TE}{I:L2.St->L2.St}{Q:VK}(wk:Walk K J B A (L.map e))
  (one:∀a∈L,∀v s (N:Hp->Prop) M,Same A s->Rep K s B v (e a)->(∀p n,Same s n->s p=Z8->n p=Z9 (.lst ((f a).map V.str))->M (.ref p) n)->g v (I σ) s λj R=>eQ (I σ) j/\tc j R λb F=>if b=Z7 then X j F M else N F)
  (q:∀l ws n,A l=Z8->Same A n->n l=Z9 (.lst (ws.map .ref))->(∀w∈ws,A w=Z8)->(l::ws).Nodup->cX n ws (L.map f)->Q (.ref l) n):
  ∀l,A l=Z8->∃P:Nat->Nat->List V->Hp->Prop,(∃m,P 0 m [] (upd A l (.lst [])))/\∀i m c k,P i m c k->(J.stop i k/\Q (.ref l) k)\/(J.go i k/\c.length<bb/\∃N:List V->Hp->Prop,(∀t n,N t n->∃Y,Y<m/\P (i+1) Y t n)/\∀x s,J.fJ i k x s->g x (I σ) s λj R=>eQ (I σ) j/\tc j R λb F=>if b=Z7 then X j F λy Z=>Z l=Z9 (.lst c)/\N (c++[y]) (upd Z l (.lst (c++[y])))else N c F):=by
 intro l hl
 let P:Nat->Nat->List V->Hp->Prop:=λi m c k=>m=L.length-i/\i<=L.length/\Same A k/\k l=Z9 (.lst c)/\∃ws,c=ws.map .ref/\(∀w∈ws,A w=Z8)/\(l::ws).Nodup/\cX k ws ((L.take i).map f)
 refine⟨P,⟨_,rfl,be _,Same.upd hl,aO,[],rfl,nofun,ci.mpr ⟨nofun,jg⟩,trivial⟩,?_⟩
 rintro i m c k ⟨rfl,hi,C,u,ws,rfl,wn,nd,G⟩
 have ll:(L.map e).length=L.length:=ae ..;by_cases r:i<L.length
 .have S:(ws.map V.ref).length<bb:=by
   have h1:=G.len;have h2:=wk.len;rw[ae,db]at h1;rw[ae];omega
  have tk:L.take (i+1)=L.take i++[L[i]]:=by rw[fu,aq r];rfl
  refine .inr ⟨wk.go k (Kp.of C) i (ll▸r),S,P (i+1) (L.length-(i+1)),λt n w=>⟨_,by omega,w⟩,λx s hy=>?_⟩;obtain⟨E,d,hd,rx⟩:=wk.fJ k (Kp.of C) i x s (ll▸r) hy;rw[ba,aq r]at hd;cases hd;refine one L[i] (dq r) x s _ _ (C.trans E) rx λp n T H ep=>?_;have pl:p≠l:=λz=>by rw[z,E _ _ u]at H;cases H
  have pw:∀w∈ws,w≠p:=λw h z=>by obtain⟨y,ey⟩:=G.there w h;rw[<-z,E _ _ ey]at H;cases H
  obtain⟨n1,n2⟩:=ci.mp nd;refine⟨(T _ _ (E _ _ u)),rfl,r,λb o eb=>?_,aO,ws++[p],by rw[bv];rfl,λw h=>?_,?_,?_⟩
  .rw[aA (bY eb hl)];exact T b o (E b o (C b o eb))
  .rcases cr.mp h with h|h
   .exact wn w h
   .rw[ak.mp h];exact(C.trans E).none H
  .rw[<-jh]
   exact l0.mpr ⟨nd,ci.mpr ⟨nofun,jg⟩,λa ha b hb=>by
    rw[ak.mp hb];rcases ao.mp ha with rfl|ha
    .exact λz=>pl z.symm
    .exact pw a ha⟩
  .rw[tk,bv];refine cX.app (cX.keep G λw h o e=>?_) ?_
   .rw[aA (λz=>by rw[z]at h;exact n1 h)];exact T _ _ (E _ _ e)
   .rw[aA pl];exact ep
 .have U:i=L.length:=by omega
  subst U;refine .inl ⟨by rw[<-ll];exact wk.stop k (Kp.of C),q l ws k hl C u wn nd ?_⟩;rw[gg]at G;exact G
inductive Sl (K:Z5)(H:Hp):L2.St->Rho->Prop where
 |nil:Sl K H [] []
 |no {o:Option V} {σ:L2.St} {ρ:Rho} (t:Sl K H σ ρ):Sl K H (o::σ) (Z8::ρ)
 |da {v:V} {d:D} {B:Ad->Prop} {σ:L2.St} {ρ:Rho} (r:Rep K H B v d) (t:Sl K H σ ρ):Sl K H (Z9 v::σ) (Z9 (.od,d)::ρ)
theorem Sl.len {K:Z5}(s:Sl K H σ ρ):σ.length=ρ.length:=by
 induction s with
 |nil=>rfl
 |no t a=>rw[bz,bz,a]
 |da r t a=>rw[bz,bz,a]
theorem Sl.at {K:Z5}(s:Sl K H σ ρ):∀(i:Nat) g d,ρ[i]?=Z9 (Z9 (g,d))->g=G.od/\∃v B,σ[i]?=Z9 (Z9 v)/\Rep K H B v d:=by
 induction s with
 |nil=>intro i g d e;cases e
 |no t a=>
  intro i g d e;cases i with
  |zero=>cases e
  |succ i=>exact a i g d e
 |da r t a=>
  intro i g d e;cases i with
  |zero=>cases e;exact⟨rfl,_,_,rfl,r⟩
  |succ i=>exact a i g d e
theorem Sl.so {K:Z5}(s:Sl K H σ ρ):StOk K (F0 H) H σ ρ:=yS s.len s.at
theorem zr {K:Z5}(tl:L2.St):Sl K H tl (bc tl.length Z8):=by
 induction tl with
 |nil=>exact .nil
 |cons o tl a=>exact .no a
theorem eq_self (h:aG 40 d=Z7):cmpD .Eq d d=.ok true:=by show(if(aG 40 d&&aG 40 d)=Z7 then Res.ok (cc d d)else Res.no)=_;rw[h,xh (show(Z7&&Z7)=Z7 from rfl),show cc d d=Z7 from rY d 40 h]
theorem bX (hκ:Z.Κ=[])(hφ:Z.Φ=Φ)(s:Sl Z.K H σ ρ)(e:Ev [] Φ c ρ d)(q:∀v H',Same H H'->Rep Z.K H' AnyB v d->Q v H'):wE Z (.aY c) σ H Q:=by obtain⟨g',e⟩:=e;exact Ui s.so (by rw[hκ,hφ];exact e) q
theorem hJ (a:Z.Κ=[])(d:Z.Φ=Φ)(s:Sl Z.K H g ρ)(e:Tt [] Φ c ρ b)(q:∀f,Same H f->R b f):wT Z (.tp c) g H R:=Uj s.so (by rw[a,d];exact e) q
theorem Sl.fP {K:Z5}(t:Sl K H σ ρ):Sl K H (Z9 (.int i)::σ) (Z9 (.od,.int i)::ρ):=.da (B:=AnyB) (d:=.int i) rfl t
theorem za7 (I:Addr->Nat->L2.St->Hp->Prop)(j:∀R,(∀a h,SqL Z.K h a d->I a 0 s h->R (.ref a) h)->wE Z u s H R)(x:∀a k c e,I a k c e->SqL Z.K e a d)
  (one:∀a k v c e,d[k]?=Z9 v->I a k c e->∀l,l.rt=t.rt->(∀cB n,I a (k+1) cB n->l.nx cB n)->tDG Z.K (.nm i) v c e (wS Z b l)) (q:∀a c e,I a d.length c e->t.nx c e):wS Z (.iK (.nm i) u b) t s H:=by
 refine j _ λa h z i1=>⟨a,rfl,⟨d,z⟩,λk m c e=>m=d.length-k/\k<=d.length/\I a k c e,⟨_,rfl,be _,i1⟩,?_⟩
 rintro k m c e ⟨rfl,hk,o⟩
 have hs:=x a k c e o;by_cases f:k<d.length
 .refine .inr ⟨⟨d,d[k],hs,aq f⟩,λg p=>d.length-(k+1)=d.length-(k+1)/\k+1<=d.length/\I a (k+1) g p,λg p w=>⟨_,by omega,w⟩,λy p r=>?_⟩;obtain⟨A,r⟩:=r;rw[A];exact one a k y c e (r _ hs) o _ rfl λcB n w=>⟨rfl,f,w⟩
 .have :k=d.length:=by omega
  subst this;exact .inl ⟨⟨d,hs,af _⟩,q a c e o⟩
theorem SqL.same {K:Z5}(h:SqL K H a b)(s:Same H c):SqL K c a b:=by
 rcases h with(h|⟨o,h⟩)|h
 .exact .inl (.inl (s _ _ h))
 .exact .inl (.inr ⟨o,s _ _ h⟩)
 .exact .inr h
theorem F7 {σ:L2.St}(hl:σ'.length=σ.length)(e:σ'[i]?=Z9 (Z9 w))(r:∀j,j≠i->σ'[j]?=σ[j]?):σ'=σ.set i (Z9 w):=by
 refine uu λj=>?_;by_cases hj:j=i
 .subst hj;rw[e,c9 (hl▸(br.mp e).1)]
 .rw[r j hj,cj (Ne.symm hj)]
theorem tQ {K:Z5}(r:Rep K H B v d)(b:i<a.length)(q:∀w,Rep K H AnyB w d->Q (a.set i (Z9 w)) H):tDG K (.nm i) v a H Q:=zl8 r b λc w f e g rest=>by rw[F7 f e rest];exact q w g
section
variable {Z:Wc}{Φ:List Fn}{D0:Ends}{σ:L2.St}{ρ:Rho}{H:Hp}{t:Tg}{it:C}{b:WS}{g:G}{ds:List D}
theorem ze9 (v:Z.Κ=[])(x:Z.Φ=Φ)(sl:Sl Z.K H E F)(ev:evW [] Φ it F=.ok (g,i))(M:Hp->Hp->Prop)(N:∀a,M a a)(O:∀a h j,M a h->M h j->M a j)(ms:∀a h,Same a h->M a h)
  (mk:∀a h,Same H a->M a h->∀b o,a b=Z9 o->(BG (F0 H) H g (Z9 b)/\¬nw a (Z9 b)\/Fix o)->h b=Z9 o) (I:Nat->L2.St->Hp->Prop) (P:∀a,Same H a->I 0 E a)
  (one:∀k y d c f h A,i[k]?=Z9 d->I k c f->Same f h->Rep Z.K h AnyB y d->A.rt=D0.rt->(∀l j,I (k+1) l j->M f j->A.nx l j)->tDG Z.K t y c h (wS Z b A))
  (q:∀c f,I i.length c f->D0.nx c f):wS Z (.aV t it b) D0 E H:=by
 refine⟨F,F0 H,(g,i),sl.so,by rw[v,x];exact ev,λJ B a G Q C=>?_⟩;have kp:∀f,M a f->Kp B a f:=λf m b o e z=>mk a f G m b o e (z.imp (λz=>Q _ z) id);refine⟨λk n c f=>n=i.length-k/\k<=i.length/\M a f/\I k c f,⟨_,rfl,be _,N _,P a G⟩,?_⟩
 rintro k n c f ⟨rfl,V,u,L⟩
 by_cases p:k<i.length
 .refine .inr ⟨C.go f (kp _ u) k p,λs h=>k+1<=i.length/\M a h/\I (k+1) s h,λs h w=>⟨i.length-(k+1),by omega,rfl,w⟩,λy h R=>?_⟩;obtain⟨S,d,e,r⟩:=C.fJ f (kp _ u) k y h p R;exact one k y d c f h _ e L S (r.weak λ_ _=>trivial) rfl λl j T U=>⟨p,O _ _ _ u U,T⟩
 .have D:k=i.length:=by omega
  subst D;exact .inl ⟨C.stop f (kp _ u),q c f L⟩
theorem z89 (j:Z.Κ=[])(l:Z.Φ=Φ)(sl:Sl Z.K H s ρ)(ev:evW [] Φ it ρ=.ok (g,u))(I:Nat->L2.St->Hp->Prop)(w:∀n,Same H n->I 0 s n)
  (one:∀k y d a c i p,u[k]?=Z9 d->I k a c->Same c i->Rep Z.K i AnyB y d->p.rt=v.rt->(∀f r,I (k+1) f r->Same c r->p.nx f r)->tDG Z.K t y a i (wS Z b p))
  (q:∀a c,I u.length a c->v.nx a c):wS Z (.aV t it b) v s H:=
 ze9 j l sl ev Same Same.refl (λ_ _ _=>Same.trans) (λ_ _ h=>h) (λn i _ m b o e _=>m b o e) I w one q
theorem zdw (i:Z.Κ=[])(j:Z.Φ=Φ)(sl:Sl Z.K H u B)(ev:evW [] Φ it B=.ok (.fr,v))(T:Addr->Prop)(C:∀b,T b->∃o,H b=Z9 o/\¬Fix o)(I:Nat->L2.St->Hp->Prop)(D:∀g,Same H g->I 0 u g)
  (one:∀k y d a c f l,v[k]?=Z9 d->I k a c->Same c f->Rep Z.K f AnyB y d->l.rt=x.rt->(∀h p,I (k+1) h p->(∀b o,¬T b->c b=Z9 o->p b=Z9 o)->l.nx h p)->tDG Z.K t y a f (wS Z b l))
  (q:∀a c,I v.length a c->x.nx a c):wS Z (.aV t it b) x u H:=
 ze9 i j sl ev (λg f=>∀b o,¬T b->g b=Z9 o->f b=Z9 o) (λ_ _ _ _ e=>e) (λ_ _ _ E F b o n e=>F b o n (E b o n e)) (λ_ _ s b o _ e=>s b o e) (λg f s m b o e z=>m b o (λw=>by
  obtain⟨G,r,nf⟩:=C b w;have A:=s b G r;rw[e]at A;cases A;rcases z with z|z
  .have J:nw H (Z9 b):=z.1;have:H b=none:=J;rw[this]at r;cases r
  .exact nf z) e) I D one q
end
theorem LY (c:a.length=(Z8::b).length)(h:∀k,k≠0->a[k]?=(Z8::b)[k]?):eQ (Z8::b) a:=⟨c.symm,λi v e=>by rw[h i (by rintro rfl;cases e)];exact e⟩
theorem Bb {K:Z5}:∀{a:List Str} {b:List V},Reps K H B b (a.map Z1)->b=a.map V.str/\∀s∈a,Z2 s=Z7
 | [],b,r=>⟨r,λ_ h=>nomatch h⟩
 |s::a,b,r=>by obtain⟨v,t,rfl,⟨rfl,ok⟩,r⟩:=r;obtain⟨rfl,h⟩:=Bb r;exact⟨rfl,λu hu=>(ao.mp hu).elim (λe=>e▸ok) (h u)⟩
theorem bN (q:wE Z e σ H λv H1=>wS Z b D0 (σ.set i (Z9 v)) H1):wS Z (.seq (.asg i e) b) D0 σ H:=q
theorem bE (q:wS Z a {c with nx:=wS Z b c} σ H):wS Z (.seq a b) c σ H:=q
theorem eW (q:wT Z c d H λk e=>if k=Z7 then wS Z a f d e else wS Z b f d e):wS Z (.aZ c a b) f d H:=q
theorem fQ (q:wE Z e a H c.rt):wS Z (.seq (.ret e) b) c a H:=q
theorem bR (Z:Wc)(q:a.nx b H):wS Z .nil a b H:=q
def cR (e:En):D:=.tuple [.str e.1,.int e.2.1,ruD e.2.2]
theorem LZ (e:En):aM (cR e)=true:=by show imms [.str e.1,.int e.2.1,ruD e.2.2]=Z7;rw[imms,imms,imms,hW];rfl
def rdD (x:bC):D:=.tuple [.list (x.1.map cR),.list (x.2.map dI)]
theorem Vl (o:List En):imms (o.map cR)=true:=nJ LZ o
theorem L0 (q:wE Z o a H λx b=>tyV Z.K "list" x b/\wE Z v a b λy c=>zU x [y] c λ_ d=>e.nx a d):wS Z (.ext o v) e a H:=q
theorem F9 {K:Z5}{k:Nat}(h:H p=Z9 (.lst a))(e:a[k]?=Z9 v)(hk:k<1000)(q:Q v H):rK K (.ref p) (.int k) H Q:=.inl ⟨p,a,k,v,rfl,rfl,SqL.of h,by unfold L2.cT L2.iB;have:k<a.length:=(br.mp e).1;rw[xh (by omega),xh (by omega)];rw[ju];exact e,q⟩
theorem Bc (so:StOk Z.K (F0 H) H σ ρ)(e:aE Z.Κ Z.Φ c ρ=.ok (.fr,d))(q:∀v H',Same H H'->Rep Z.K H' (nw H) v d->Q v H'):wE Z (.aY c) σ H Q:=⟨ρ,F0 H,(.fr,d),so,e,q⟩
theorem zt {K:Z5}(r:Rep K H' (Mi.nw H) v (.list ds)):∃p vs,v=.ref p/\H p=Z8/\H' p=Z9 (.lst vs)/\Reps K H' (Mi.nw H) vs ds:=by
 obtain⟨p,vs,rfl,h,r⟩:=r;rcases h with⟨h,z⟩|⟨_,z⟩
 .exact⟨p,vs,rfl,z,h,r⟩
 .exact z.elim
theorem nw.wk (s:Same H b):∀a,Mi.nw b a->Mi.nw H a:=λ_ z=>nw.back s z
structure CtA (K:Z5)(H:Hp)(x:bC)(es:List En)(k:Nat)(ns:List Str)(v ve:V)(pn:Addr):Prop where
 rv:Rep K H AnyB v (rdD x)
 re:Rep K H AnyB ve (.list (es.map cR))
 rn:H pn=Z9 (.lst (ns.map V.str))
 on:∀s∈ns,Z2 s=Z7
 hk:k<x.2.length
 hl:x.2.length<=8
 ho:x.1.length+es.length<=100
 hx:∀w∈x.2,w.length<=20
 hn:ns.length<=20
def spCt (K:Z5):Sp:=λvs H Q _=>∃x es,∃k:Nat,∃ns v ve pn,vs=[v,ve,.int k,.ref pn]/\CtA K H x es k ns v ve pn/\∀H' u,Same H H'->Rep K H' (Mi.nw H) u (rdD (x.1++es,x.2.set k (x.2.getD k []++ns)))->Q u H'
theorem cX.qQ {K:Z5}:∀{ws:List Addr} {a:List (List Str)},cX H ws a->Ba a->(∀w∈ws,H0 w=Z8)->Reps K H (Mi.nw H0) (ws.map .ref) (a.map dI)
 | [],[],_,_,_=>rfl
 |w::ws,x::a,h,o,n=>⟨.ref w,ws.map .ref,rfl,⟨w,_,rfl,.inl ⟨h.1,n w (.head _)⟩,LX (o x (.head _))⟩,cX.qQ h.2 (λy b=>o y (.tail _ b)) λw c=>n w (.tail _ c)⟩
theorem L1 {K:Z5}:∀{xs:List (List Str)} {vs:List V},Reps K H B vs (xs.map dI)->Ba xs
 | [],_,_=>λ_ h=>by cases h
 |x::xs,_,h=>by
  obtain⟨v,r,rfl,hv,hr⟩:=h;intro y hy;rcases ao.mp hy with rfl|hy
  .obtain⟨p,vs,_,_,rv⟩:=hv;exact(Bb rv).2
  .exact L1 hr y hy
section
variable {Z:Wc}{H:Hp}{D0:Ends}{v ve:V}{pn:Addr}{k:Nat}{x:bC}{es:List En}{ns:List Str}
theorem zoo (hκ:Z.Κ=[])(hφ:Z.Φ=[])(a:CtA Z.K H x es k ns v ve pn)(q:∀G u,Same H G->Rep Z.K G (Mi.nw H) u (rdD (x.1++es,x.2.set k (x.2.getD k []++ns)))->D0.rt u G):
  wS Z L65.ct D0 [Z9 v,Z9 ve,Z9 (.int k),Z9 (.ref pn),Z8] H:=by
 obtain⟨o,hs⟩:=x;have hl:hs.length<=8:=a.hl;have ho:o.length+es.length<=100:=a.ho;have ok:Ba hs:=by obtain⟨_,_,_,_,_,_,_,_,_,_,_,⟨_,_,_,_,r⟩,_⟩:=a.rv;exact L1 r
 have cl:∀Q,(∀l ws c,H l=Z8->Same H c->c l=Z9 (.lst (ws.map .ref))->(∀w∈ws,H w=Z8)->(l::ws).Nodup->cX c ws (hs.map id)->Q (.ref l) c)->wE Z L65.LO [Z9 v,Z9 ve,Z9 (.int k),Z9 (.ref pn),Z8] H Q:=λQ kq=>by
  refine K1 (Uk (aL rfl (fO λH0 D=>Ug (a.rv.same D λ_ z=>z) rfl λw I=>⟨AnyB,.list (hs.map dI),hs.map dI,I,rfl,λJ wk=>?_⟩)));refine zs0 wk (λa ha u L N M W ru hM=>?_) λl ws c d s1 E F nd i=>kq l ws c (D.none d) (D.trans s1) E (λw h=>D.none (F w h)) nd i;refine zl8 (σ:=[Z8]) ru (by decide) λσ' X j e0 O rest=>⟨LY j rest,?_⟩;refine⟨X,e0,AnyB,X,dI a,Z7,a.map .str,dI a,rfl,O,rfl,rfl,λy H4 s4 P=>?_⟩;obtain⟨p,vs,rfl,m,R⟩:=P;obtain⟨rfl,_⟩:=Bb R;rcases m with⟨m,z⟩|⟨_,z⟩
  .refine hM p H4 s4 ?_ m;rcases z with z|⟨z,_⟩
   .exact z
   .rw[sU]at z;cases z
  .rcases z with z|⟨z,_⟩
   .exact z.elim
   .rw[sU]at z;cases z
 refine bN (cl _ λl ws c d n E F nd i=>?_);rw[wf]at i;have S:=i.len;obtain⟨n1,n2⟩:=ci.mp nd;have f:k<ws.length:=S▸a.hk;have T:=aq f;obtain⟨x,ex,t⟩:=i.at _ T;refine bE (L0 (yU (aL rfl (aL rfl (F9 E (v:=.ref ws[k]) (by rw[ba,T];rfl) (by omega) ⟨.inl ⟨rfl,_,SqL.of t⟩,aL rfl ⟨ws[k],pn,x.map V.str,ns.map V.str,rfl,rfl,t,n _ _ a.rn,?_,?_⟩⟩)))))
 .rw[ae,ae,bt];have:=a.hx x (bn ex);have:=a.hn;omega
 rw[<-bv];have A:=i.set (y:=x++ns) n2 _ T;have lw:l≠ws[k]:=λz=>n1 (z▸dq f);have e2:upd c ws[k] (.lst ((x++ns).map V.str)) l=Z9 (.lst (ws.map .ref)):=aA lw▸E;have B:Same H (upd c ws[k] (.lst ((x++ns).map V.str))):=λb ob e=>by rw[aA λz=>by have:=F _ (dq f);rw[<-z,e]at this;cases this];exact n b ob e
 have sR:Ba (hs.set k (x++ns)):=λy U s C=>by
  rcases j1 U with U|rfl
  .exact ok y U s C
  .rcases cr.mp C with z|z
   .exact ok x (bn ex) s z
   .exact a.on s z
 generalize upd c ws[k] (.lst ((x++ns).map V.str))=H2 at A e2 B ⊢;have sl:Sl Z.K H2 [Z9 v,Z9 ve,Z9 (.int k),Z9 (.ref pn),Z9 (.ref l)] [Z9 (.od,rdD (o,hs)),Z9 (.od,.list (es.map cR)),Z8,Z8,Z8]:=.da (a.rv.same B λ_ z=>z) (.da (a.re.same B λ_ z=>z) (.no (.no (.no .nil))));have ee:aE Z.Κ Z.Φ (.bin .Add (.ix (.var 0) (.int 0)) (.var 1)) [Z9 (.od,rdD (o,hs)),Z9 (.od,.list (es.map cR)),Z8,Z8,Z8]=.ok (.fr,.list ((o++es).map cR)):=by rw[bv];exact yL (Ev.of rfl) (z02 rfl) (add_list (by grind)) (bv▸Vl _)
 refine fQ (vJ (aH (Bc sl.so ee λy L W P=>aH (aL rfl (bD ⟨by rw[bt];simp,λp m=>?_⟩)))));have uD:Same L (upd L p (.tup [y,.ref l])):=Same.upd m;have g:=W.trans uD;rw[show(o,hs).2.getD k []=x from(by rw[av,ex];rfl)]at q;refine q _ _ (B.trans g) ⟨p,_,rfl,bF.of aO,y,_,rfl,(P.same uD λ_ z=>z).weak (nw.wk B),.ref l,_,rfl,⟨l,ws.map .ref,rfl,.inl ⟨g _ _ e2,d⟩,?_⟩,rfl⟩;exact cX.qQ (A.keep λw _=>g w) sR F
end
abbrev Φy:List Fn:=[Fs,Fq,Fv]
theorem Vm (s:Bool):decide (sd s=("for":Str))=s:=by cases s<;>rfl
theorem pM {b:Type}(m:b->D){a:List b}(h:k<a.length):ixD (.list (a.map m)) (.int k)=.ok (m a[k]):=by rw[FG m a[k] (by omega) (by omega)];rw[ju,av,aq h];rfl
theorem iM (ha:Ev Κ Φ a ρ x)(hb:Ev Κ Φ b ρ y)(h:ixD x y=.ok d):Ev Κ Φ (.ix a b) ρ d:=by obtain⟨c,ha⟩:=ha;obtain⟨e,hb⟩:=hb;exact⟨gJ d c,by rw[sV,ha,Res.aC,hb,Res.aC];dsimp only;rw[h,Res.aC]⟩
theorem zu (so:StOk Z.K (F0 H) H σ ρ)(e:aE Z.Κ Z.Φ c ρ=.ok (.fr,dI ns))(q:∀p H',Same H H'->H' p=Z9 (.lst (ns.map V.str))->Q (.ref p) H'):wE Z (.aY c) σ H Q:=Bc so e λv H' s r=>by obtain⟨p,vs,rfl,_,hp,kS⟩:=zt r;obtain⟨rfl,_⟩:=Bb kS;exact q p H' s hp
theorem dZ (h:Z.fn[j]?=Z9 a)(q:wA Z as b H λc d=>a (c++[]) d Q Z.E):wE Z (.cP j as) b H Q:=by show(match Z.fn[j]? with|some a=>rC a [] Z.E (wA Z as)|none=>qL) b H Q;rw[h];exact q
structure WyA (K:Z5)(H:Hp)(o:Op)(rs:List Ru)(th:P)(k:Nat)(x:bC)(vr vb vt v:V):Prop where
 rr:Rep K H AnyB vr (opD o)
 rb:Rep K H AnyB vb (.list (rs.map ruD))
 rt:Rep K H AnyB vt (pk th)
 rv:Rep K H AnyB v (rdD x)
 ht:PK th
 hk:k<x.2.length
 hl:x.2.length<=8
 ho:x.1.length<=20
 hr:rs.length<=20
 hx:∀w∈x.2,w.length<=15
def spWy (K:Z5):Sp:=λvs H Q _=>∃o rs th,∃k:Nat,∃x vr vb vt v,vs=[vr,vb,.int k,vt,v]/\WyA K H o rs th k x vr vb vt v/\∀H' u,Same H H'->Rep K H' (Mi.nw H) u (.list ((z18 o rs k th x).map rdD))->Q u H'
theorem Vn (o:Op)(b:Bool):∀s∈ho o b,Z2 s=true:=λs hs=>by
 cases b with
 |false=>cases hs
 |true=>rw[ak.mp hs];exact o.so
section
variable {Z:Wc}{H:Hp}{D0:Ends}{o:Op}{rs:List Ru}{th:P}{c:Cs}{k:Nat}{x:bC}{vr vb vt v:V}
theorem Vo (hr:rs.length<=20)(hx:x.1.length<=20)(h1:ρ[1]?=Z9 (Z9 (.od,.list (rs.map ruD))))(h4:ρ[4]?=Z9 (Z9 (.od,rdD x)))(h5:cL (ρ.getD 5 Z8)=Z9 (.od,.str o.n))(h6:ρ[6]?=Z9 (Z9 (.od,cD c))):∃kk,Vv [] Φy L65.LP ρ (tN kk (bnd biR sdR (rs++(x.1.filter λe=>decide (e.1=o.n)).map (·.2.2)) c)):=by have hc:=z24 (Κ:=[]) (Φ:=Φy) (nt:=1) (js:=[5]) (N':=["entry","name"]) (it:=.tv (.ix (.var 4) (.int 0))) (cond:=.tv (.cmp .Eq (.ix (.var 0) (.int 0)) (.var 1))) (elt:=.ix (.var 0) (.int 2)) (λe=>decide (e.1=o.n)) (λe=>ruD e.2.2) (bI (by rw[sV,qF];rw[h4];rfl) rfl) rfl (λe=>[Z9 (.al,cR e),Z9 (.od,.str o.n)]) (λe _=>by show eD (.nm 0) _ [Z8,cL (ρ.getD 5 Z8)]=_;rw[h5];exact tL (LZ e)) (λe _=>aU (z0m (k:=decide (e.1=o.n)) (v_ix (z02 rfl) z08.e rfl rfl).e (z02 rfl) (by show Res.ok _=_;rw[mR])).e rfl) λe _ _=>v_ix (z02 rfl) z08.e rfl (hW _);rw[show((x.1.filter λe=>decide (e.1=o.n)).map λe=>ruD e.2.2)=((x.1.filter λe=>decide (e.1=o.n)).map (·.2.2)).map ruD by rw[dg];rfl]at hc;have fl:=gt (λe:En=>decide (e.1=o.n)) x.1;have ha:=yL (z02 h1) (Ev.of hc) (add_list (by grind)) (bv▸nJ hW _);rw[<-bv]at ha;obtain⟨kk,hb⟩:=UO (rs:=rs++(x.1.filter λe=>decide (e.1=o.n)).map (·.2.2)) (by grind);exact⟨kk,z0q (z00 (Ev.of ha) (z00 (z02 h6) z09)) rfl hb (UL _ _)⟩
theorem zsh (g:Z.Κ=[])(h:Z.Φ=Φy)(R:Z.fn[0]?=Z9 (spCt Z.K))(a:WyA Z.K H o rs th k x vr vb vt v)
  (q:∀j u,Same H j->Rep Z.K j (Mi.nw H) u (.list ((z18 o rs k th x).map rdD))->D0.rt u j):wS Z L65.wy D0 [Z9 vr,Z9 vb,Z9 (.int k),Z9 vt,Z9 v,Z8,Z8,Z8] H:=by
 have hk:=a.hk;have sl:∀{j:Hp} {S T U:Option V} {A B r7:Option GD},Same H j->Sl Z.K j [S,T,U] [A,B,r7]->Sl Z.K j [Z9 vr,Z9 vb,Z9 (.int k),Z9 vt,Z9 v,S,T,U] [Z9 (.od,opD o),Z9 (.od,.list (rs.map ruD)),Z9 (.od,.int k),Z9 (.od,pk th),Z9 (.od,rdD x),A,B,r7]:=λ{j S T U A B r7} s t=>.da (a.rr.same s λ_ z=>z) (.da (a.rb.same s λ_ z=>z) (.fP (.da (a.rt.same s λ_ z=>z) (.da (a.rv.same s λ_ z=>z) t))));refine bN (bX g h (sl (Same.refl H) (.no (.no (.no .nil)))) (v_ix (z02 rfl) z08.e rfl rfl).e λW H1 s1 A=>?_);have ek:ixD (.list (x.2.map dI)) (.int k)=.ok (dI (x.2.getD k [])):=by rw[pM dI hk,av,aq hk];rfl
 refine bN (bX g h (sl s1 (.da A (.no (.no .nil)))) (d:=cD (iL o th (x.2.getD k []))) (fN (z00 (z02 rfl) (z00 (z02 rfl) (z00 (iM (iM (z02 rfl) z08.e rfl) (z02 rfl) ek) z09))) rfl (U4 o a.ht _)) λv6 H2 s2 B=>?_);have F:=s1.trans s2;have G:=A.same s2 λ_ z=>z;obtain⟨kk,eb⟩:=Vo a.hr a.ho (ρ:=[Z9 (.od,opD o),Z9 (.od,.list (rs.map ruD)),Z9 (.od,.int k),Z9 (.od,pk th),Z9 (.od,rdD x),Z9 (.od,.str o.n),Z9 (.od,cD (iL o th (x.2.getD k []))),Z8]) rfl rfl rfl rfl;refine bN (bX g h (sl F (.da G (.da B (.no .nil)))) eb.e λv7 O s3 r7=>?_);have l:=F.trans s3;have I:=G.same s3 λ_ z=>z;have J:=B.same s3 λ_ z=>z;have ct:∀{c:Hp} {es:List En} {C:V} {pn:Addr} {b:Bool} {Q:VK},Same H c->Rep Z.K c AnyB C (.list (es.map cR))->es.length<=2->c pn=Z9 (.lst ((ho o b).map V.str))->(∀j u,Same c j->Rep Z.K j (Mi.nw c) u (rdD (hX o k x es b))->Q u j)->spCt Z.K [v,C,.int k,.ref pn] c Q Z.E:=λ{c es C pn b Q} f re hl hn kq=>by refine⟨x,es,k,ho o b,v,C,pn,rfl,⟨a.rv.same f λ_ z=>z,re,hn,Vn o b,hk,a.hl,?_,λw hw=>a8 (a.hx w hw) (by decide),by cases b<;>(first|exact be _|(show 1<=20;decide))⟩,kq⟩;have:=a.ho;omega
 have L:∀{c:Hp} {us:List V} {ds:List bC},Same H c->us.length<=2->Reps Z.K c (Mi.nw H) us (ds.map rdD)->z18 o rs k th x=ds->wA Z .nil [Z9 vr,Z9 vb,Z9 (.int k),Z9 vt,Z9 v,Z9 W,Z9 v6,Z9 v7] c λys P=>(us++ys).length<=bb/\∀p,P p=Z8->D0.rt (.ref p) (upd P p (.lst (us++ys))):=λ{c us ds} f hl M e=>by refine bD ⟨by rw[ce,bt];omega,λp hp=>?_⟩;rw[ce];have uP:Same c (upd c p (.lst us)):=Same.upd hp;refine q _ _ (f.trans uP) ?_;rw[e];exact⟨p,us,rfl,.inl ⟨aO,f.none hp⟩,M.same uP λ_ z=>z⟩
 cases hb:bnd biR sdR (rs++(x.1.filter λe=>decide (e.1=o.n)).map (·.2.2)) (iL o th (x.2.getD k []))with
 |some s=>
  rw[hb]at r7;refine bE (eW (aL (Z:=Z) rfl ⟨Z7,by rw[xq (λz=>by subst z;obtain⟨p,vs,e,_⟩:=r7;cases e)];rfl,?_⟩));have N:∀{c:Hp},Same O c->Sl Z.K c [Z9 vr,Z9 vb,Z9 (.int k),Z9 vt,Z9 v,Z9 W,Z9 v6,Z9 v7] [Z9 (.od,opD o),Z9 (.od,.list (rs.map ruD)),Z9 (.od,.int k),Z9 (.od,pk th),Z9 (.od,rdD x),Z9 (.od,.str o.n),Z9 (.od,cD (iL o th (x.2.getD k []))),Z9 (.od,tN kk (Z9 s))]:=λ{c} f=>sl (l.trans f) (.da (I.same f λ_ z=>z) (.da (J.same f λ_ z=>z) (.da (r7.same f λ_ z=>z) .nil)));refine fQ (fH (aH (dZ R (aH (aL rfl (aH (bX g h (N (Same.refl O)) (d:=.list (([]:List En).map cR)) (Ev.of (fZ dU)) λC c f re=>?_)))))));refine aH (aL rfl (aH (zu (ns:=ho o s) (Sl.so (N f)) ?_ λpn P D en=>bD ?_)))
  .rw[g,h];rw[Az,aU (z0m (v_ix (z02 rfl) z08.e rfl rfl).e fM.e (by show Res.ok _=_;rw[mR,Vm])).e rfl,Res.aC];cases s with
   |true=>exact fZ (dP (v_var rfl rfl) dU)
   |false=>exact fZ dU
  .have i:=l.trans (f.trans D);exact ct i (re.same D λ_ z=>z) (by decide) en λH6 u s6 M=>L (ds:=[_]) (i.trans s6) (by show 1<=2;decide) ⟨u,[],rfl,M.weak (nw.wk i),rfl⟩ (by unfold z18;rw[hb])
 |none=>rw[hb]at r7;subst r7;refine bE (eW (aL (Z:=Z) rfl ⟨Z6,rfl,bR Z ?_⟩));have m:∀{c:Hp},Same O c->Sl Z.K c [Z9 vr,Z9 vb,Z9 (.int k),Z9 vt,Z9 v,Z9 W,Z9 v6,Z9 .bG] [Z9 (.od,opD o),Z9 (.od,.list (rs.map ruD)),Z9 (.od,.int k),Z9 (.od,pk th),Z9 (.od,rdD x),Z9 (.od,.str o.n),Z9 (.od,cD (iL o th (x.2.getD k []))),Z8]:=λ{c} f=>sl (l.trans f) (.da (I.same f λ_ z=>z) (.da (J.same f λ_ z=>z) (.no .nil)));have ev:∀b,Ev [] Φy (.lst (.cons (.tup (.cons (.var 5) (.cons (.var 2) (.cons (.call 0 "fullest" (.cons (.var 6) (.cons (.str (sd b)) .nil))) .nil)))) .nil)) [Z9 (.od,opD o),Z9 (.od,.list (rs.map ruD)),Z9 (.od,.int k),Z9 (.od,pk th),Z9 (.od,rdD x),Z9 (.od,.str o.n),Z9 (.od,cD (iL o th (x.2.getD k []))),Z8] (.list ([((o.n,k,gF (iL o th (x.2.getD k [])) b):En)].map cR)):=λb=>Ev.of (fZ (dP (qG (dP (v_var rfl rfl) (dP (v_var rfl rfl) (dP (z0q (z00 (z02 rfl) (z00 fM.e z09)) rfl (UP _ b) (hW _)) dU)))) dU));refine fQ (fH (aH (dZ R (aH (aL rfl (aH (bX g h (m (Same.refl O)) (ev Z7) λC c f re=>?_)))))));refine aH (aL rfl (aH (zu (ns:=ho o Z7) (Sl.so (m f)) (g▸fZ (dP (v_var rfl rfl) dU)) λpn P D en=>bD ?_)));have i:=l.trans (f.trans D);refine ct i (re.same D λ_ z=>z) (by show 1<=2;decide) en λH6 u s6 M=>?_;have r:=f.trans (D.trans s6);refine aH (dZ R (aH (aL rfl (aH (bX g h (m r) (ev Z6) λYn H7 s7 Vp=>?_)))));refine aH (aL rfl (aH (zu (ns:=ho o Z6) (Sl.so (m (r.trans s7))) (g▸fZ dU) λYo H8 s8 Vq=>bD ?_)));have y:=l.trans (r.trans (s7.trans s8));exact ct y (Vp.same s8 λ_ z=>z) (by show 1<=2;decide) Vq λH9 u' s9 Vr=>L (us:=[u,u']) (ds:=[_,_]) (y.trans s9) (af 2) ⟨u,[u'],rfl,(M.weak (nw.wk i)).same (s7.trans (s8.trans s9)) λ_ z=>z,u',[],rfl,Vr.weak (nw.wk y),rfl⟩ (by unfold z18;rw[hb])
end
structure Bd (n m c:Nat)(x:bC):Prop where
 n:x.2.length=n
 m:x.1.length<=m
 c:∀w∈x.2,w.length<=c
theorem Vs (o:Op)(b:Bool):(ho o b).length<=1:=by cases b<;>(first|exact be _|exact af 1)
theorem Ga (h:Bd n m c x)(d:es.length<=1):Bd n (m+1) (c+1) (hX o k x es b):=by
 have hm:=h.m;refine⟨by unfold hX;rw[cz];exact h.n,by unfold hX;rw[cg];omega,λw a=>?_⟩;have f:=Vs o b;rcases j1 a with a|rfl
 .exact u0 (h.c w a)
 .rw[cg]
  have:(x.2.getD k []).length<=c:=by
   rw[av];cases e:x.2[k]? with
   |none=>exact be _
   |some w=>exact h.c w (bn e)
  omega
theorem Vt (h:Bd n m c x)(a:y∈z18 o b k th x):Bd n (m+1) (c+1) y:=by
 unfold z18 at a;split at a
 .rw[ak.mp a];exact Ga h (be _)
 .rcases ao.mp a with rfl|a
  .exact Ga h (af 1)
  .rw[ak.mp a];exact Ga h (af 1)
theorem L3 (o:Op)(rs:List Ru)(k:Nat)(th:P)(x:bC):(z18 o rs k th x).length<=2:=by
 unfold z18;split
 .show 1<=2;decide
 .exact af 2
theorem Gb (o:Op)(rs:List Ru)(k:Nat)(th:P):∀l:List bC,(l.flatMap (z18 o rs k th)).length<=2*l.length
 | []=>af _
 |x::l=>by rw[l7,cg,bz];have:=L3 o rs k th x;have:=Gb o rs k th l;omega
def iY (o:Op)(rs:List Ru)(ths:List P)(l:List bC)(k:Nat):List bC:=openK o rs (ths.zipIdx.take k) l
theorem L4 (h:k<ths.length):iY o rs ths l (k+1)=(iY o rs ths l k).flatMap (z18 o rs k ths[k]):=by unfold iY openK;rw[fu,aq (by rw[kt];exact h),tt];rw[o0,vn];rfl
theorem L5:iY o rs ths l ths.length=zp o rs ths l:=by unfold iY zp;rw[gn (by rw[kt];exact af _)]
theorem Ge (h:∀x∈l,Bd n m c x):∀{k:Nat},k<=ths.length->(iY o rs ths l k).length<=l.length*2 ^ k/\∀x∈iY o rs ths l k,Bd n (m+k) (c+k) x
 |0,_=>⟨by rw[Nat.mul_one];exact af _,h⟩
 |k+1,hk=>by
  obtain⟨d,a⟩:=Ge (o:=o) (rs:=rs) (ths:=ths) h (k:=k) (by omega);rw[L4 (by omega)];refine⟨?_,λx hx=>?_⟩
  .have :=Gb o rs k ths[k] (iY o rs ths l k);rw[Nat.pow_succ,<-Nat.mul_assoc];omega
  .obtain⟨y,b,hx⟩:=List.mem_flatMap.mp hx;exact Vt (a y b) hx
theorem zfk (I:Addr->Nat->L2.St->Hp->Prop)(l:∀R,(∀a j,SqL Z.K j a d->I a 0 t j->R (.ref a) j)->wE Z it t H R)(x:∀a k c e,I a k c e->SqL Z.K e a d)
  (one:∀a k v c e,d[k]?=Z9 v->I a k c e->∀n,n.rt=u.rt->(∀f o,I a (k+1) f o->n.nx f o)->wS Z b n (c.set i (Z9 v)) e) (q:∀a c e,I a d.length c e->u.nx c e):wS Z (.gZ i it b) u t H:=by
 refine l _ λa j z A=>⟨a,rfl,⟨d,z⟩,λk m c e=>m=d.length-k/\k<=d.length/\I a k c e,⟨_,rfl,be _,A⟩,?_⟩
 rintro k m c e ⟨rfl,C,p⟩
 have hs:=x a k c e p;by_cases g:k<d.length
 .refine .inr ⟨⟨d,d[k],hs,aq g⟩,λh r=>d.length-(k+1)=d.length-(k+1)/\k+1<=d.length/\I a (k+1) h r,λh r w=>⟨_,by omega,w⟩,λy r s=>?_⟩;obtain⟨B,s⟩:=s;rw[B];exact one a k y c e (s _ hs) p _ rfl λf o w=>⟨rfl,g,w⟩
 .have :k=d.length:=by omega
  subst this;exact .inl ⟨⟨d,hs,af _⟩,q a c e p⟩
theorem L6 {a:L2.St}(d:i≠j)(b:σ'.length=a.length)(c:σ'[i]?=Z9 (Z9 u))(e:σ'[j]?=Z9 (Z9 w))(r:∀k,k≠i->k≠j->σ'[k]?=a[k]?):σ'=(a.set i (Z9 u)).set j (Z9 w):=by
 refine F7 (by rw[cz];exact b) e λk f=>?_;by_cases z:k=i
 .subst z;rw[c,c9 (b▸(br.mp c).1)]
 .rw[r k z f,cj (Ne.symm z)]
def neB (T:List Addr):Ad->Prop
 |some a=>a∉T
 |none=>True
theorem Reps.aA {K:Z5}(b:H p=Z9 (.lst h))(c:p∈T)(d:∀a,B a->neB T a)(r:Reps K H B f g):Reps K (upd H p (.lst i)) B f g:=
 Reps.keep (λx j e z=>by
  rw[L2.aA λw=>by
   rcases z with z|z
   .exact d _ z (w▸c)
   .rw[w,b]at e;cases e;exact z]
  exact e) (λ_ z=>z) _ r
theorem L7 (h:∀p∈T,∃o,H p=Z9 o)(a:Ad)(z:Mi.nw H a):neB T a:=by
 cases a with
 |none=>exact trivial
 |some a=>intro w;obtain⟨o,e⟩:=h a w;have z:H a=none:=z;rw[e]at z;cases z
theorem D7 {H:Hp}(h:H p=Z9 o):∀x∈[p],∃o,H x=Z9 o:=λx hx=>⟨o,(ak.mp hx)▸h⟩
structure WoA (K:Z5)(H:Hp)(o:Op)(rs:List Ru)(ths:List P)(l:List bC)(B:Ad->Prop)(vr vb vk vf:V):Prop where
 rr:Rep K H AnyB vr (opD o)
 rb:Rep K H AnyB vb (.list (rs.map ruD))
 rk:Rep K H AnyB vk (.list (ths.map pk))
 rf:Rep K H B vf (.list (l.map rdD))
 ht:∀t∈ths,PK t
 hl:ths.length<=4
 hr:rs.length<=20
 hb:∀x∈l,Bd ths.length 10 10 x
 ll:l.length<=100
def spWo (K:Z5):Sp:=λvs H Q _=>∃o rs ths l B vr vb vk vf,vs=[vr,vb,vk,vf]/\WoA K H o rs ths l B vr vb vk vf/\∀H' u,Same H H'->Rep K H' (λa=>Mi.nw H a\/B a) u (.list ((zp o rs ths l).map rdD))->Q u H'
theorem L8 {K:Z5}(r:Rep K H B v (.list ds)):∃a vs,v=.ref a/\SqL K H a vs/\Reps K H B vs ds:=kQ r
section
variable {Z:Wc}{H:Hp}{D0:Ends}{o:Op}{rs:List Ru}{ths:List P}{l:List bC}{B:Ad->Prop}{vr vb vk vf:V}
theorem zrl (M:Z.Κ=[])(N:Z.Φ=[])(f0:Z.fn[0]?=Z9 (spWy Z.K))(a:WoA Z.K H o rs ths l B vr vb vk vf)
  (q:∀g u,Same H g->Rep Z.K g (λa=>Mi.nw H a\/B a) u (.list ((zp o rs ths l).map rdD))->D0.rt u g):wS Z L65.wo D0 [Z9 vr,Z9 vb,Z9 vk,Z9 vf,Z8,Z8,Z8,Z8] H:=by
 have ev:evW [] [] (.enum (.var 2)) [Z8,Z8,Z9 (.od,.list (ths.map pk)),Z8,Z8,Z8,Z8,Z8]=.ok (.al,ths.zipIdx.map λx=>.tuple [.int x.2,pk x.1]):=by rw[D' (z02 rfl) (vG (by rw[ae];have:=a.hl;omega)),E6]
 refine bE (z89 M N (.no (.no (.da a.rk (.no (.no (.no (.no (.no .nil)))))))) ev (λk f g=>Same H g/\∃u O P Q D,f=[Z9 vr,Z9 vb,Z9 vk,Z9 u,O,P,Q,D]/\Rep Z.K g (λa=>Mi.nw H a\/B a) u (.list ((iY o rs ths l k).map rdD))) (λH1 s1=>⟨s1,vf,_,_,_,_,rfl,a.rf.same s1 λ_ z=>.inr z⟩) ?_ ?_)
 .rintro k y d f g H2 D2 hd ⟨S,u,O,P,Q,D,rfl,J⟩ T ry mS nx
  rw[ba]at hd;obtain⟨x,hx,rfl⟩:=bu.mp hd;have hk:=by have:=(br.mp hx).1;rw[kt]at this;exact this
  have ex:x=(ths[k],k):=by have:=(br.mp hx).2;rw[tt,vn]at this;exact this.symm
  subst ex;refine zt3 ry (by simp) (by simp) (by decide) λnX w4 w E e4 e5 r4 U rest=>?_;have V:=L6 (by decide) E e4 e5 rest;subst V;cases r4;refine bN (fH (bD ⟨be _,λC L=>?_⟩));have t:=S.trans T;have L9:=a.hl;obtain⟨lc,ly⟩:=Ge (o:=o) (rs:=rs) a.hb (jx hk);have W:2 ^ k<=2 ^ 4:=jw (by decide) (by omega);have Yp:(iY o rs ths l k).length<=1600:=by have h1:=Nat.mul_le_mul a.ll W;omega
  obtain⟨X,vs,rfl,F,G⟩:=L8 (J.same T λ_ z=>z);refine bE (zfk (λb j f g=>b=X/\Same H2 g/\∃ws D,f=[Z9 vr,Z9 vb,Z9 vk,Z9 (.ref X),Z9 (.int k),Z9 w,Z9 (.ref C),D]/\g C=Z9 (.lst ws)/\Reps Z.K g (λa=>neB [C] a/\Mi.nw H a) ws ((((iY o rs ths l k).take j).flatMap (z18 o rs k ths[k])).map rdD)) (λR hR=>aL rfl (hR X _ (SqL.same F (Same.upd L)) ⟨rfl,Same.upd L,[],_,rfl,aO,rfl⟩)) (λb j f g h=>?_) ?_ ?_)
  .obtain⟨rfl,p,_⟩:=h;exact SqL.same F p
  .rintro b j v f H3 hv ⟨rfl,p,ws,Y,rfl,i,rl⟩ D3 Vu Vw
   obtain⟨d,hd,rd⟩:=Reps.eS G hv;rw[ba]at hd;obtain⟨y,hy,rfl⟩:=bu.mp hd;have r:=ly y (bn hy);have A:=t.trans p;refine bE (L0 (aL rfl ⟨.inl ⟨rfl,_,SqL.of i⟩,dZ f0 (aH (aL rfl (aH (aL rfl (aH (aL rfl (aH (aL rfl (aH (aL rfl (bD ?_)))))))))))⟩));refine⟨o,rs,ths[k],k,y,vr,vb,w,v,rfl,⟨a.rr.same A λ_ z=>z,a.rb.same A λ_ z=>z,U.same p λ_ z=>z,(rd.same p λ_ z=>z).weak λ_ _=>trivial,a.ht _ (dq hk),by rw[r.n];exact hk,by rw[r.n];omega,by have:=r.m;omega,a.hr,λw hw=>by have:=r.c w hw;omega⟩,λH4 u4 s4 r4=>?_⟩;obtain⟨p4,Vx,rfl,n4,Vy,I⟩:=zt r4;have s:=s4 _ _ i;refine⟨C,p4,_,_,rfl,rfl,s,Vy,?_,?_⟩
   .rw[rl.length,I.length,ae,ae,bt];have h1:=Gb o rs k ths[k] ((iY o rs ths l k).take j);rw[db]at h1;have h2:=L3 o rs k ths[k] y;omega
   refine Vw _ _ ⟨rfl,λb ob e=>?_,ws++Vx,_,rfl,aO,?_⟩
   .rw[aA λz=>by rw[z,L]at e;cases e];exact s4 _ _ (p _ _ e)
   .have tk:(iY o rs ths l k).take (j+1)=(iY o rs ths l k).take j++[y]:=by rw[fu,hy];rfl
    rw[tk,tq,bv,show[y].flatMap (z18 o rs k ths[k])=z18 o rs k ths[k] y from ce _];exact Reps.aA s (.head _) (λ_ z=>z.1) ((rl.same s4 λ_ z=>z).append (I.weak λa z=>⟨L7 (D7 i) a z,nw.wk A a z⟩))
  .rintro b f H3 ⟨rfl,p,ws,Y,rfl,i,rl⟩
   refine bN (aL rfl (bR Z ?_));refine nx _ _ ⟨t.trans p,.ref C,_,_,_,_,rfl,?_⟩ (T.trans p);rw[G.length,ae,gn (af _),<-L4 hk]at rl;exact⟨C,ws,rfl,.inl ⟨i,.inl (t.none L)⟩,rl.weak λ_ z=>.inl z.2⟩
 .rintro f g ⟨S,u,O,P,Q,D,rfl,J⟩
  rw[ae,kt,L5]at J;exact fQ (aL rfl (q g u S J))
end
section
def FB (H:Hp)(B:Ad->Prop):Fm:=⟨λ_=>Z8,λa=>H a=Z8\/B (Z9 a),λ_=>Z8,B Z8⟩
inductive Sb (K:Z5)(H:Hp)(B:Ad->Prop):L2.St->Rho->Prop where
 |nil:Sb K H B [] []
 |no {o:Option V} {σ:L2.St} {ρ:Rho} (t:Sb K H B σ ρ):Sb K H B (o::σ) (Z8::ρ)
 |da {v:V} {d:D} {σ:L2.St} {ρ:Rho} (r:Rep K H B v d) (t:Sb K H B σ ρ):Sb K H B (Z9 v::σ) (Z9 (.al,d)::ρ)
variable {K:Z5}{H:Hp}{B:Ad->Prop}{σ:L2.St}{ρ:Rho}
theorem Sb.len (s:Sb K H B σ ρ):σ.length=ρ.length:=by
 induction s with
 |nil=>rfl
 |no _ ih=>exact congrArg (· +1) ih
 |da _ _ ih=>exact congrArg (· +1) ih
theorem Sb.at (s:Sb K H B σ ρ):∀(i:Nat) g d,ρ[i]?=Z9 (Z9 (g,d))->g=G.al/\∃v,σ[i]?=Z9 (Z9 v)/\Rep K H B v d:=by
 induction s with
 |nil=>intro i g d e;cases i<;>cases e
 |no _ ih=>
  intro i g d e;cases i with
  |zero=>cases e
  |succ i=>exact ih i g d e
 |da r _ ih=>
  intro i g d e;cases i with
  |zero=>cases e;simp_all
  |succ i=>exact ih i g d e
theorem Sb.so (s:Sb K H B σ ρ):StOk K (FB H B) H σ ρ where
 ext:=λa o e=>by cases e
 aK:=λa e=>.inl e
 own:=λa i e=>by cases e
 len:=s.len
 sl:=λi g d e=>by
  obtain⟨rfl,v,b,r⟩:=s.at i g d e
  exact⟨v,b,r.weak λa z=>by
   cases a with
   |none=>exact z
   |some a=>exact .inr z⟩
theorem zv (g:G)(a:Ad)(z:BG (FB H B) H g a):Mi.nw H a\/B a:=by
 cases g with
 |fr=>exact .inl z
 |od=>
  cases a with
  |none=>exact .inr z
  |some a=>exact absurd rfl z.1
 |al=>
  cases a with
  |none=>exact .inr z
  |some a=>exact z
 |nu=>
  rcases z with z|z
  .exact .inl z
  .cases a with
   |none=>exact z.elim
   |some a=>exact z.2.2
theorem Vz (f:Z.Κ=[])(h:Z.Φ=Φ)(s:Sb Z.K H B σ ρ)(e:aE [] Φ c ρ=.ok (g,d))(q:∀v b,Same H b->Rep Z.K b (λa=>Mi.nw H a\/B a) v d->Q v b):wE Z (.aY c) σ H Q:=⟨ρ,FB H B,(g,d),s.so,by rw[f,h];exact e,λv b i r=>q v b i (r.weak (zv g))⟩
end
def jY (n:Str)(s:Sg):D:=.tuple [.str "word",.str n,cW s]
theorem VA (n:Str)(s:Sg):aM (jY n s)=true:=by show(Z7&&(Z7&&(aM (cW s)&&Z7)))=Z7;rw[kG];rfl
theorem L' (x:List Str):imms (x.map Z1)=true:=rO.mpr λy a=>by obtain⟨z,_,rfl⟩:=au.mp a;rfl
theorem VB (d:aE Κ Φ a c=.ok (.fr,x))(hr:c[i]?=Z9 (Z9 (.fr,.list b)))(hl:b.length<1000):aW Κ Φ (.mut "append" i (.cons a .nil)) c=.ok (.nx ((c.set i (Z9 (.fr,.list (b++[x])))).map gC)):=by
 rw[S',Ax,d,Res.aC,Tc,Res.aC,Res.aC,hr]
 dsimp only
 have:lU "append" b [(.fr,x)]=.ok (b++[x]):=by show(if(okIn (G.fr,x)&&decide (b.length<aQ))=Z7 then _ else _)=_;rw[xh];rw[show okIn (G.fr,x)=Z7 by show(aM x||(Z7||_))=Z7;rw[Bool.true_or,vg],Bool.true_and];refine xp ?_;unfold aQ;omega
 rw[this];rfl
def kH (n:Str)(s:Sg)(t:Th):List Str:=if fI t s then[n]else[]
theorem Gf (hs:dp s<=3)(hp:∀t∈ths,PK t)(hl:ths.length<=10)(hx:x.2.length=ths.length)(hw:∀w∈x.2,w.length<=20):Fw [jY n s,.list (ths.map pk),rdD x]=.ok (.al,rdD (tO n s ths x)):=by
 have z1:∀{a:List P} {b:List (List Str)},b.length=a.length->zipD (a.map pk) (b.map dI)=(a.zip b).map λt:Th=>.tuple [pk t.1,wl t]:=by
  intro a
  induction a with
  |nil=>intro b h;cases b with
   |nil=>rfl
   |cons _ _=>simp at h
  |cons y a ih=>intro b h;cases b with
   |nil=>simp at h
   |cons z b=>rw[aw,aw,zipD,ih (by simpa using h)];rfl
 refine dY ?_
 let Q:Res Out->Prop:=λz=>z=.ok (.rt .al (rdD (tO n s ths x)))
 show Q _
 let R:List Th->Option GD->Option GD->Option GD->Rho:=λpre u4 u5 u6=>[Z9 (.od,jY n s),Z9 (.od,.list (ths.map pk)),Z9 (.od,rdD x),Z9 (.fr,.list (pre.map λt=>dI (t.2++kH n s t))),u4,u5,u6]
 have zl:(ths.zip x.2).length<=10:=by rw[j9];omega
 have ez:evF [] [lB 3] (.zip (.var 1) (.ix (.var 2) (.int 1))) (R [] Z8 Z8 Z8)=.ok (.al,(ths.zip x.2).map (λt:Th=>.tuple [pk t.1,wl t]),R [] Z8 Z8 Z8):=by show(seqR (.list (ths.map pk))>>=λxs=>seqR (.list (x.2.map dI))>>=λzs=>Res.ok (G.al,zipD xs zs,R [] Z8 Z8 Z8))=_;rw[vG (by grind),Res.aC,vG (by grind),Res.aC,z1 hx]
 refine zhi ez (λpre ρ=>∃u4 u5 u6,ρ=R pre u4 u5 u6) ⟨Z8,Z8,Z8,rfl⟩ ?_ ?_
 .rintro pre t post ρ ex ⟨u4,u5,u6,rfl⟩
  have lp:pre.length<10:=by have:=congrArg qz ex;rw[cg,bz]at this;omega
  obtain⟨m1,m2⟩:=g8 (ex▸bp _ bj);refine⟨_,LM t,.inl ⟨_,?_,Z9 (.al,pk t.1),Z8,Z9 (.fr,dI (kH n s t)),rfl⟩⟩
  have e6:aE [] [lB 3] (.jN (.tv (.call 0 "holds" (.cons (.ix (.var 0) (.int 2)) (.cons (.var 4) (.cons (.var 5) .nil))))) (.lst (.cons (.ix (.var 0) (.int 1)) .nil)) (.lst .nil)) [Z9 (.od,jY n s),Z9 (.od,.list (ths.map pk)),Z9 (.od,rdD x),Z9 (.fr,.list (pre.map λt=>dI (t.2++kH n s t))),Z9 (.al,pk t.1),Z9 (.al,wl t),u6]=.ok (.fr,.list ((kH n s t).map .str)):=by
   rw[Az,show dF _ _ _ _=_ from(aU (z0q (z00 (v_ix (z02 rfl) z08.e rfl (kG s)).e (z00 (z02 rfl) (z00 (z02 rfl) z09))) rfl (A0 3 s hs (hp _ m1)) rfl).e rfl),Res.aC];unfold kH;cases fI t s with
   |true=>exact fZ (dP (v_ix (z02 rfl) z08.e rfl rfl) dU)
   |false=>exact fZ dU
  refine eG (qI e6 (L' _)) (eG (VB (x:=dI (t.2++kH n s t)) (yL (z02 rfl) (z02 rfl) ?_ (L' _)) rfl (by grind)) ?_)
  .have ml:(kH n s t).length<=1:=by unfold kH;split<;>simp
   have tl:=hw _ m2;rw[bv];exact add_list (by grind)
  .rw[pH];show Res.ok (Out.nx [Z9 (.od,jY n s),Z9 (.od,.list (ths.map pk)),Z9 (.od,rdD x),Z9 (.fr,.list ((pre.map λt=>dI (t.2++kH n s t))++[dI (t.2++kH n s t)])),gC (Z9 (.al,pk t.1)),gC (Z9 (.al,wl t)),Z9 (.fr,dI (kH n s t))])=Res.ok (Out.nx (R (pre++[t]) _ _ _));rw[UD (cA _),show gC (Z9 (.al,wl t))=Z8 from rfl];show _=Res.ok (Out.nx [_,_,_,Z9 (G.fr,Z0 ((pre++[t]).map λt=>dI (t.2++kH n s t))),_,_,_]);rw[bv];rfl
 .rintro ρ ⟨u4,u5,u6,rfl⟩
  refine z07 ?_;show Res.ok (Out.rt .al (.tuple [.list (x.1.map cR),.list ((ths.zip x.2).map λt=>dI (t.2++kH n s t))]))=Res.ok (Out.rt .al (.tuple [.list (x.1.map cR),.list (((ths.zip x.2).map λp=>p.2++if qP p.1 p.2 s then[n]else[]).map dI)]));rw[dg];rfl
section
variable {Κ:List D}{Φ:List Fn}{ρ:Rho}
theorem Ma {β:Type}{m f:β->D}{p:β->Bool}:∀(xs:List β),(∀x∈xs,p x=Z7->∃g,F (m x)=.ok (Z9 (g,f x)))->(∀x∈xs,p x=Z6->F (m x)=.ok Z8)->∃ys,hK F (xs.map m)=.ok ys/\ys.map (·.2)=(xs.filter p).map f
 | [],_,_=>⟨[],rfl,rfl⟩
 |x::xs,h1,h2=>by
  obtain⟨ys,e1,e2⟩:=Ma xs (λy hy=>h1 y (.tail _ hy)) (λy hy=>h2 y (.tail _ hy));cases e:p x with
  |true=>
   obtain⟨g,h⟩:=h1 x (.head _) e;refine⟨(g,f x)::ys,?_,?_⟩
   .rw[aw,hK,h,e1];rfl
   .rw[gz e,aw,aw,e2]
  |false=>
   refine⟨ys,?_,?_⟩
   .rw[aw,hK,h2 x (.head _) e,e1];rfl
   .rw[g6 (e▸gc),e2]
theorem z8y {b:Type}{cond:C}{m:b->D}{a:List b}(p:b->Bool)(f:b->D)(e:evW Κ Φ it ρ=.ok w)(hx:w.2=a.map m)(r:b->Rho)
  (hb:∀x∈a,eD tg (gJ (m x) w.1,m x) (bc nt Z8++js.map λj=>cL (ρ.getD j Z8))=.ok (r x)) (d:∀x∈a,Tt Κ Φ cond (r x) (p x)) (i:∀x∈a,p x=Z7->Ev Κ Φ elt (r x) (f x)):
  Ev Κ Φ (.comp nt js s tg it cond elt) ρ (.list ((a.filter p).map f)):=by
 obtain⟨l,n,o⟩:=Ma (F:=λx=>eD tg (gJ x w.1,x) (bc nt Z8++js.map λj=>cL (ρ.getD j Z8))>>=λc=>dF Κ Φ cond c>>=λk=>if k then aE Κ Φ elt c>>=λy=>.ok (Z9 y)else .ok Z8) a (λx hx h=>by
  obtain⟨g,q⟩:=i x hx h;refine⟨g,?_⟩;rw[hb x hx,Res.aC,show dF Κ Φ cond (r x)=_ from d x hx,h,q];rfl) (λx hx h=>by
  rw[hb x hx,Res.aC,show dF Κ Φ cond (r x)=_ from d x hx,h];rfl)
 refine⟨oF l,?_⟩;rw[EZ,e,Res.aC,hx,n,Res.aC,o]
theorem zme {b:Type}{m:b->D}{a:List b}(f:b->D)(d:evW Κ Φ g ρ=.ok w)(hx:w.2=a.map m)(r:b->Rho)
  (hb:∀x∈a,eD h (gJ (m x) w.1,m x) (bc i Z8++k.map λj=>cL (ρ.getD j Z8))=.ok (r x)) (e:∀x∈a,aE Κ Φ c (r x)=.ok (.fr,f x)):
  aE Κ Φ (.comp i k n h g .nil c) ρ=.ok (.fr,.list (a.map f)):=by
 rw[EZ];rw[d,Res.aC,hx];rw[EN (λx=>Z9 (f x)) a λx hx=>by rw[hb x hx,Res.aC];rw[e x hx];rfl];rw[Res.aC,Ks,Ay]
 have:(a.filterMap λx=>Z9 (f x))=a.map f:=by
  clear hx hb e d
  induction a with
  |nil=>rfl
  |cons x a l=>rw[aw,<-l];rfl
 rw[this]
end
theorem zw (x:D)(a:List D):ixD (.tuple (x::a)) (.int 0)=.ok x:=by show Res.eR (Mi.cT (x::a) 0)=_;rw[ES _ 0 x (sh 0) (by grind)];rfl
def dJ:cQ->D
 |.op o=>opD o
 |.wd n s=>jY n s
 |.id k r=>.tuple (.str k::r)
def dQ:cQ->Bool
 |.op _=>Z7
 |_=>Z6
def kI:cQ->Bool
 |.wd _ _=>Z7
 |_=>Z6
structure zx (rows:List cQ)(es:bA)(bk:Str->List Ru):Prop where
 id:∀k r,cQ.id k r∈rows->k≠"word"/\k≠"open"
 op:∀o,cQ.op o∈rows->(cU es (.str o.n)).getD (.list [])=.list ((bk o.n).map ruD)/\(bk o.n).length<=20
 wd:∀n s,cQ.wd n s∈rows->dp s<=3/\Z2 n=Z7
 two:(rows.filter dQ).length<=2
 tw:(rows.filter kI).length<=2
theorem VC (h:Bd n m c x)(hl:a.length=n):Bd n m (c+1) (tO w s a x):=by
 refine⟨?_,h.m,λy b=>?_⟩
 .show((a.zip x.2).map _).length=n;have:=h.n;rw[ae,j9];omega
 .obtain⟨p,d,rfl⟩:=au.mp b;have e:=h.c p.2 (g8 d).2;split<;>simp<;>omega
theorem Be (hl:ths.length<=4)(a:List cQ):∀l c d,l.length<=16 ^ c->(∀x∈l,Bd ths.length (4*c) (4*c+d) x)->(a.foldl (eL bk ths) l).length<=16 ^ (c+(a.filter dQ).length)/\∀x∈a.foldl (eL bk ths) l,Bd ths.length (4*(c+(a.filter dQ).length)) (4*(c+(a.filter dQ).length)+(d+(a.filter kI).length)) x:=by
 induction a with
 |nil=>exact λl c d f g=>⟨f,g⟩
 |cons r a h=>
  intro l c d f g;cases r with
  |id k r=>exact h l c d f g
  |wd n s=>
   have e:d+((cQ.wd n s::a).filter kI).length=(d+1)+(a.filter kI).length:=by show d+((a.filter kI).length+1)=_;omega
   rw[e];refine h _ c (d+1) (by show(l.map _).length<=_;rw[ae];exact f) λx hx=>?_;obtain⟨y,q,rfl⟩:=au.mp hx;exact VC (g y q) rfl
  |op o=>
   have e:c+((cQ.op o::a).filter dQ).length=(c+1)+(a.filter dQ).length:=by show c+((a.filter dQ).length+1)=_;omega
   rw[e];obtain⟨i,j⟩:=Ge g (af ths.length);rw[L5]at i j;refine h _ (c+1) d ?_ λx hx=>?_
   .have p:2 ^ ths.length<=2 ^ 4:=jw (by decide) hl;have:=Nat.mul_le_mul f p;exact a8 i this
   .have b:=j x hx;exact⟨b.n,a8 b.m (by omega),λw t=>a8 (b.c w t) (by omega)⟩
structure RgA (K:Z5)(H:Hp)(rows:List cQ)(es:bA)(bk:Str->List Ru)(hd:List P)(fa:P->P)(va vb vt:V):Prop where
 ok:zx rows es bk
 ra:Rep K H AnyB va (.list (rows.map dJ))
 rb:Rep K H AnyB vb (.dict es)
 rt:Rep K H AnyB vt (.list (hd.map pk))
 hf:∀t∈hd,tH [.list (rows.map dJ),pk t]=.ok (.fr,pk (fa t))/\PK (fa t)
 hu:∃u:Int,u<=8/\AO [.list (rows.map dJ),.int hd.length]=.ok (.fr,.int u)
 hl:hd.length<=4
def spRd (K:Z5):Sp:=λvs H Q _=>∃rows es bk hd fa va vb vt,vs=[va,vb,vt]/\RgA K H rows es bk hd fa va vb vt/\∀H' u,Same H H'->Rep K H' (Mi.nw H) u (.list ((run5 bk (hd.map fa) rows).map rdD))->Q u H'
abbrev Φr:List Fn:=[tH,AO,Fw]
theorem Mb {a:List cQ}{hd:List P}(e:Φ[0]?=Z9 tH)(hf:∀t∈hd,tH [.list (a.map dJ),pk t]=.ok (.fr,pk (b t))/\PK (b t))(h0:cL (c.getD 0 Z8)=Z9 (.od,.list (a.map dJ)))(f:c[2]?=Z9 (Z9 (.od,.list (hd.map pk)))):aE [] Φ L65.kn c=.ok (.fr,.list ((hd.map b).map pk)):=by have d:=z24 (Κ:=[]) (nt:=1) (js:=[0]) (N':=["thing","act"]) (elt:=.call 0 "of_facts" (.cons (.var 1) (.cons (.var 0) .nil))) (λ_=>Z7) (λt=>pk (b t)) (bI (by rw[qF];rw[f];rfl) rfl) rfl (λt=>[Z9 (.al,pk t),Z9 (.od,.list (a.map dJ))]) (λt _=>by show eD (.nm 0) _ [Z8,cL (c.getD 0 Z8)]=_;rw[h0];exact tL (cA _)) (λ_ _=>qH) λt ht _=>z0q (z00 (z02 rfl) (z00 (z02 rfl) z09)) e (hf t ht).1 (cA _);rw[gq.mpr λ_ _=>rfl]at d;rw[dg];exact d
theorem VD (h:Z.gi[j]?=Z9 n)(q:Q (.int n) H):wE Z (.gi j) a H Q:=by show(match Z.gi[j]? with|some n=>(λ_ H (Q:VK)=>Q (.int n) H)|none=>qL) a H Q;rw[h];exact q
section
variable {Z:Wc}{H:Hp}{D0:Ends}{rows:List cQ}{es:bA}{bk:Str->List Ru}{hd:List P}{fa:P->P}{va vb vt:V}
theorem zs1 (hκ:Z.Κ=[])(hφ:Z.Φ=Φr)(hg:Z.gi[0]?=Z9 8)(f0:Z.fn[0]?=Z9 (spWo Z.K))(a:RgA Z.K H rows es bk hd fa va vb vt)
  (q:∀H' u,Same H H'->Rep Z.K H' (Mi.nw H) u (.list ((run5 bk (hd.map fa) rows).map rdD))->D0.rt u H'):wS Z L65.rg D0 [Z9 va,Z9 vb,Z9 vt,Z8,Z8,Z8] H:=by
 have sl:∀{H':Hp} {o3 o4 o5:Option V} {r3 r4 r5:Option GD},Same H H'->Sl Z.K H' [o3,o4,o5] [r3,r4,r5]->Sl Z.K H' [Z9 va,Z9 vb,Z9 vt,o3,o4,o5] [Z9 (.od,.list (rows.map dJ)),Z9 (.od,.dict es),Z9 (.od,.list (hd.map pk)),r3,r4,r5]:=λ{H' o3 o4 o5 r3 r4 r5} s t=>.da (a.ra.same s λ_ z=>z) (.da (a.rb.same s λ_ z=>z) (.da (a.rt.same s λ_ z=>z) t));have hlen:kN "len" [.list (hd.map pk)]=.ok (.int hd.length):=by show Res.ok (ZZ ((hd.map pk).length:Nat))=_;rw[ae]
 obtain⟨n,hn,eu⟩:=a.hu;refine bE (eW (yV (bX hκ hφ (sl (Same.refl H) (.no (.no (.no .nil)))) (fN (z00 (z02 rfl) (z00 (iJ (z00 (z02 rfl) z09) hlen rfl).e z09)) rfl eu) λv1 H1 s1 r1=>VD hg (yT (B':=AnyB) (dy:=.int 8) r1 rfl (by show Res.ok (decide (8<n))=_;rw[xq (by omega)]) λH2 s2=>⟨Z6,rfl,bR Z ?_⟩))));have qR:=s1.trans s2;refine bN (Bc (Sl.so (sl qR (.no (.no (.no .nil))))) (by rw[hκ,hφ];exact Mb rfl a.hf rfl rfl) λv3 H3 s3 Mc=>?_);have r3:=Mc.weak λ_ _=>trivial;have nN:=qR.trans s3;refine bN (fH (aH (vJ (aH (fH (bD ⟨be _,λpe he=>?_⟩))))));have uE:Same H3 (upd H3 pe (.lst [])):=Same.upd he;refine aH (Bc (Sl.so (sl (nN.trans uE) (.da (r3.same uE λ_ z=>z) (.no (.no .nil))))) (d:=.list ((hd.map fa).map λ_=>.list [])) (by rw[hκ];exact(zme (λ_=>.list []) (bI (x:=.list ((hd.map fa).map pk)) rfl rfl) rfl (λt=>[Z9 (.al,pk t)]) (λt _=>tL (cA t)) λt _=>fZ dU)) λvh H5 s5 rh=>bD ⟨by rw[bt];simp,λt ht=>bD ⟨by rw[bt];simp,λp0 Md=>?_⟩⟩);have uT:Same H5 (upd H5 t (.tup [.ref pe,vh])):=Same.upd ht;have uP:Same (upd H5 t (.tup [.ref pe,vh])) (upd (upd H5 t (.tup [.ref pe,vh])) p0 (.lst [.ref t])):=Same.upd Md;have sA:=(uE.trans s5).trans (uT.trans uP);have rf:Rep Z.K (upd (upd H5 t (.tup [.ref pe,vh])) p0 (.lst [.ref t])) (Mi.nw H) (.ref p0) (.list ([(([],(hd.map fa).map λ_=>[]):bC)].map rdD)):=by refine⟨p0,[.ref t],rfl,.inl ⟨aO,((nN.trans uE).trans (s5.trans uT)).none Md⟩,.ref t,[],rfl,⟨t,_,rfl,bF.of (uP _ _ aO),.ref pe,[vh],rfl,⟨pe,[],rfl,.inl ⟨uP _ _ (uT _ _ (s5 _ _ aO)),nN.none he⟩,rfl⟩,vh,[],rfl,?_,rfl⟩,rfl⟩;rw[dg];exact(rh.same (uT.trans uP) λ_ z=>z).weak (nw.wk (nN.trans uE))
 generalize upd (upd H5 t (.tup [.ref pe,vh])) p0 (.lst [.ref t])=HA at rf sA ⊢;have zy:=nN.trans sA;obtain⟨aa,vs,rfl,hq,kS⟩:=L8 (a.ra.same zy λ_ z=>z);refine bE (za7 (λb j σ' H'=>b=aa/\Same HA H'/\∃u o5,σ'=[Z9 (.ref aa),Z9 vb,Z9 vt,Z9 v3,Z9 u,o5]/\Rep Z.K H' (Mi.nw H) u (.list (((rows.take j).foldl (eL bk (hd.map fa)) [([],(hd.map fa).map λ_=>[])]).map rdD))) (λR hR=>aL rfl (hR aa HA hq ⟨rfl,Same.refl HA,_,_,rfl,rf⟩)) (λb j σ' H' h=>by obtain⟨rfl,s,_⟩:=h;exact SqL.same hq s) ?_ ?_)
 .rintro b j v σ' H' hv ⟨rfl,sH,u,o5,rfl,ru⟩ D2 mS nx
  obtain⟨d,oA,rd⟩:=Reps.eS kS hv;rw[ba]at oA;obtain⟨r,hr,rfl⟩:=bu.mp oA;have tk:rows.take (j+1)=rows.take j++[r]:=by rw[fu,hr];rfl
  have fo:(rows.take (j+1)).foldl (eL bk (hd.map fa)) [([],(hd.map fa).map λ_=>[])]=eL bk (hd.map fa) ((rows.take j).foldl (eL bk (hd.map fa)) [([],(hd.map fa).map λ_=>[])]) r:=by rw[tk,o0];rfl
  have mem:=bn hr;have bd:=Be (bk:=bk) (ths:=hd.map fa) (by rw[ae];exact a.hl) (rows.take j) [([],(hd.map fa).map λ_=>[])] 0 0 (af 1) λx hx=>by rw[ak.mp hx];exact⟨ae ..,be _,λw hw=>by obtain⟨_,_,rfl⟩:=au.mp hw;exact be _⟩
  have wt:((rows.take j).filter kI).length<=2:=a8 ((jq _ _).filter _).length_le a.ok.tw;have ot:((rows.take j).filter dQ).length<=2:=a8 ((jq _ _).filter _).length_le a.ok.two;have ct:∀o,r=.op o->((rows.take j).filter dQ).length<=1:=λo e=>by have h1:((rows.take (j+1)).filter dQ).length<=(rows.filter dQ).length:=((jq _ _).filter _).length_le;rw[tk,gu,cg,e,show[cQ.op o].filter dQ=[cQ.op o]from rfl]at h1;have h2:=a.ok.two;have h3:[cQ.op o].length=1:=rfl;omega
  refine tQ (rd.same sH λ_ z=>z) (by simp) λw gG=>?_;have vR:∀{H6:Hp},Same H' H6->Sl Z.K H6 [Z9 (.ref b),Z9 vb,Z9 vt,Z9 v3,Z9 u,Z9 w] [Z9 (.od,.list (rows.map dJ)),Z9 (.od,.dict es),Z9 (.od,.list (hd.map pk)),Z8,Z8,Z9 (.od,dJ r)]:=λ{H6} s6=>sl (zy.trans (sH.trans s6)) (.no (.no (.da (gG.same s6 λ_ z=>z) .nil)));cases r with
  |id k rr=>obtain⟨n1,n2⟩:=a.ok.id k rr mem;have zA:∀s,k≠s->Tt [] Φr (.tv (.cmp .Eq (.ix (.var 5) (.int 0)) (.str s))) [Z9 (.od,.list (rows.map dJ)),Z9 (.od,.dict es),Z9 (.od,.list (hd.map pk)),Z8,Z8,Z9 (.od,dJ (.id k rr))] false:=λs hs=>aU (z0m (v_ix (z02 rfl) z08.e (zw _ _) rfl).e fM.e (by show Res.ok _=_;rw[mR,xq hs])).e rfl;refine bE (eW (hJ hκ hφ (vR (Same.refl H')) (zA _ n1) λH6 s6=>?_));refine bE (eW (hJ hκ hφ (vR s6) (zA _ n2) λH7 s7=>bR Z (bR Z ?_)));refine bR Z (nx _ _ ⟨rfl,sH.trans (s6.trans s7),_,_,rfl,?_⟩);rw[fo];exact ru.same (s6.trans s7) λ_ z=>z
  |wd n s=>
   obtain⟨hs,hn⟩:=a.ok.wd n s mem;refine bE (eW (hJ hκ hφ (vR (Same.refl H')) (aU (z0m (v_ix (z02 rfl) z08.e rfl rfl).e fM.e (by rfl)).e rfl) λH6 s6=>?_))
   let l:=(rows.take j).foldl (eL bk (hd.map fa)) [([],(hd.map fa).map λ_=>[])]
   have VE:∀t∈hd.map fa,PK t:=λt ht=>by obtain⟨t',zB,rfl⟩:=au.mp ht;exact(a.hf t' zB).2
   have ec:Ev [] Φr (.comp 1 [5,3] ["reading","row","known"] (.nm 0) (.tv (.var 4)) .nil (.call 2 "with_word" (.cons (.var 1) (.cons (.var 2) (.cons (.var 0) .nil))))) [Z8,Z8,Z8,Z9 (.al,.list ((hd.map fa).map pk)),Z9 (.al,.list (l.map rdD)),Z9 (.al,jY n s)] (.list ((l.filter λ_=>Z7).map λx=>rdD (tO n s (hd.map fa) x))):=by refine z8y (λ_=>Z7) (λx=>rdD (tO n s (hd.map fa) x)) (bI (ρ:=[Z8,Z8,Z8,Z9 (.al,.list ((hd.map fa).map pk)),Z9 (.al,.list (l.map rdD)),Z9 (.al,jY n s)]) rfl rfl) rfl (λx=>[Z9 (.al,rdD x),Z9 (.al,jY n s),Z9 (.al,.list ((hd.map fa).map pk))]) (λx _=>rfl) (λ_ _=>qH) λx hx _=>?_;have b:=bd.2 x hx;exact fN (z00 (z02 rfl) (z00 (z02 rfl) (z00 (z02 rfl) z09))) rfl (Gf hs VE (by rw[ae];have:=a.hl;omega) b.n λw hw=>a8 (b.c w hw) (by omega))
   rw[gq.mpr λ_ _=>rfl]at ec;obtain⟨g,ec⟩:=ec;refine bN (Vz hκ hφ (.no (.no (.no (.da ((Mc.weak (nw.wk qR)).same (sA.trans (sH.trans s6)) λ_ z=>z) (.da (ru.same s6 λ_ z=>z) (.da (Rep.aT _ (VA n s) (gG.same s6 λ_ z=>z)) .nil)))))) ec λu9 H9 s9 r9=>?_);refine bR Z (bR Z (nx _ _ ⟨rfl,(sH.trans s6).trans s9,_,_,rfl,?_⟩));rw[fo];show Rep _ _ _ _ (.list ((l.map (tO n s (hd.map fa))).map rdD));rw[dg];exact r9.weak λa z=>z.elim (nw.wk ((zy.trans sH).trans s6) a) id
  |op o=>
   obtain⟨eb,lb⟩:=a.ok.op o mem;have ct:=ct o rfl;refine bE (eW (hJ hκ hφ (vR (Same.refl H')) (aU (z0m (v_ix (z02 rfl) z08.e rfl rfl).e fM.e (by rfl)).e rfl) λH6 s6=>?_));refine bE (eW (hJ hκ hφ (vR s6) (aU (z0m (v_ix (z02 rfl) z08.e rfl rfl).e fM.e (by rfl)).e rfl) λH7 s7=>?_));have Me:=s6.trans s7;refine bN (dZ f0 (aH (aL rfl (aH (bX hκ hφ (vR Me) (d:=.list ((bk o.n).map ruD)) ?_ λVF H8 s8 VG=>?_)))))
   .have e1:Ev [] Φr (.ix (.var 5) (.int 1)) [Z9 (.od,.list (rows.map dJ)),Z9 (.od,.dict es),Z9 (.od,.list (hd.map pk)),Z8,Z8,Z9 (.od,dJ (.op o))] (.str o.n):=(v_ix (z02 rfl) z08.e rfl rfl).e;obtain⟨ys,ea,ed⟩:=z00 e1 (z00 (Ev.of (fZ dU)) z09);refine⟨gJ (.list ((bk o.n).map ruD)) .al,?_⟩;show(Res.ok (G.od,PyData.dict es)>>=λx=>_)=_;rw[Res.aC,ea,Res.aC,ed];show((Res.ok ((cU es (.str o.n)).getD (.list [])))>>=λd=>_)=_;rw[eb];rfl
   have zC:=Me.trans s8;refine aH (aL rfl (aH (aL rfl (bD ⟨o,bk o.n,hd.map fa,_,Mi.nw H,w,VF,v3,u,rfl,⟨gG.same zC λ_ z=>z,VG,r3.same (sA.trans (sH.trans zC)) λ_ z=>z,ru.same zC λ_ z=>z,λt ht=>?_,by rw[ae];exact a.hl,lb,λx hx=>?_,?_⟩,λH9 u9 s9 r9=>?_⟩))))
   .obtain⟨t',zB,rfl⟩:=au.mp ht;exact(a.hf t' zB).2
   .have b:=bd.2 x hx;exact⟨b.n,a8 b.m (by omega),λw hw=>a8 (b.c w hw) (by omega)⟩
   .have VH:16 ^ (0+((rows.take j).filter dQ).length)<=16 ^ 1:=jw (by decide) (by omega);exact a8 bd.1 (a8 VH (by decide))
   .refine bR Z (bR Z (nx _ _ ⟨rfl,(sH.trans zC).trans s9,_,_,rfl,?_⟩));rw[fo];exact r9.weak λa z=>z.elim (nw.wk ((zy.trans sH).trans zC) a) id
 .rintro b σ' H' ⟨rfl,sH,u,o5,rfl,ru⟩
  rw[kS.length,ae,gn (af _)]at ru;exact fQ (aL rfl (q H' u (zy.trans sH) ru))
end
theorem qS (q:wE Z o a H λx b=>tyV Z.K "list" x b/\wE Z v a b λy c=>zT x [y] c λ_ d=>e.nx a d):wS Z (.app o v) e a H:=q
theorem zfr (I:Addr->List V->Nat->L2.St->Hp->Prop)(hit:∀R,(∀a vs H1,SqL Z.K H1 a vs->I a vs 0 σ H1->R (.ref a) H1)->wE Z it σ H R)(sq:∀a vs k σ' H',I a vs k σ' H'->SqL Z.K H' a vs)
  (one:∀a vs k v σ' H',vs[k]?=Z9 v->I a vs k σ' H'->∀D2,D2.rt=D0.rt->(∀cB H3,I a vs (k+1) cB H3->D2.nx cB H3)->wS Z b D2 (σ'.set i (Z9 v)) H') (q:∀a vs σ' H',I a vs vs.length σ' H'->D0.nx σ' H'):wS Z (.gZ i it b) D0 σ H:=by
 refine hit _ λa vs H1 h1 i1=>⟨a,rfl,⟨vs,h1⟩,λk m σ' H'=>m=vs.length-k/\k<=vs.length/\I a vs k σ' H',⟨_,rfl,be _,i1⟩,?_⟩
 rintro k m σ' H' ⟨rfl,hk,ik⟩
 have hs:=sq a vs k σ' H' ik;by_cases vS:k<vs.length
 .refine .inr ⟨⟨vs,vs[k],hs,aq vS⟩,λnX H2=>vs.length-(k+1)=vs.length-(k+1)/\k+1<=vs.length/\I a vs (k+1) nX H2,λnX H2 w=>⟨_,by omega,w⟩,λy H2 hy=>?_⟩;obtain⟨e2,hy⟩:=hy;rw[e2];exact one a vs k y σ' H' (hy _ hs) ik _ rfl λcB H3 w=>⟨rfl,vS,w⟩
 .have :k=vs.length:=by omega
  subst this;exact .inl ⟨⟨vs,hs,af _⟩,q a vs σ' H' ik⟩
def mT (f:List (List Str)->Bool)(l:List bC):Str:=if(l.filter λx=>!f x.2)=[]then "must"else if(l.filter λx=>f x.2)=[]then "never"else "open"
def iN (f:List (List Str)->Bool)(l:List bC):List bC:=if(l.filter λx=>!f x.2)=[]then[]else if(l.filter λx=>f x.2)=[]then[]else(l.filter λx=>f x.2).take 1++(l.filter λx=>!f x.2).take 1
structure StA (K:Z5)(H:Hp)(rows:List cQ)(es:bA)(bk:Str->List Ru)(hd:List P)(fa:P->P)(cl:Str)(ask:D)(f:List (List Str)->Bool)(va vb vt:V):Prop extends RgA K H rows es bk hd fa va vb vt where
 ha:zi [.list (rows.map dJ),.str cl]=.ok (.fr,ask)
 sc:Z2 cl=Z7
 hs:∀hs:List (List Str),hs.length=hd.length->(∀w∈hs,w.length<=20)->nI 3 [ask,.list ((hd.map fa).map pk),.list (hs.map dI)]=.ok (.fr,.bool (f hs))
def spSe (K:Z5):Sp:=λvs H Q _=>∃rows es bk hd fa cl ask f va vb vt,vs=[va,vb,vt,.str cl]/\StA K H rows es bk hd fa cl ask f va vb vt/\∀H' t p ws,Same H H'->H' t=Z9 (.tup [.str (mT f (run5 bk (hd.map fa) rows)),.ref p])->H p=Z8->H' p=Z9 (.lst ws)->Reps K H' (Mi.nw H) ws ((iN f (run5 bk (hd.map fa) rows)).map rdD)->Q (.ref t) H'
abbrev Φs:List Fn:=[tH,nI 3,zi]
theorem Bf (n:Nat)(l:P):aG (n+2) (pk l)=true:=iC.mpr λx hx=>by obtain⟨p,_,rfl⟩:=au.mp hx;cases n<;>rfl
theorem VI (n:Nat)(f a:P):aG (n+3) (kF f a)=true:=by show(aG (n+2) (pk f)&&(aG (n+2) (pk a)&&Z7))=Z7;rw[Bf,Bf];rfl
theorem Mf (n:Nat)(r:Ru):aG (n+4) (ruD r)=true:=by show(aG (n+3) (kF r.2.1.1 r.2.2.1.1)&&(Z7&&(aG (n+1+2) (pk r.2.2.2.1)&&Z7)))=Z7;rw[VI,Bf];rfl
theorem VJ (n:Nat)(e:En):aG (n+5) (cR e)=true:=by show(Z7&&(Z7&&(aG (n+4) (ruD e.2.2)&&Z7)))=Z7;rw[Mf];rfl
theorem VL (n:Nat)(x:List Str):aG (n+1) (dI x)=true:=Lx n x
theorem Gg (n:Nat)(x:bC):aG (n+7) (rdD x)=true:=by show(dM (n+5) (x.1.map cR)&&(dM (n+5) (x.2.map dI)&&Z7))=Z7;rw[iC.mpr λy hy=>by obtain⟨e,_,rfl⟩:=au.mp hy;exact VJ n e,iC.mpr λy hy=>by obtain⟨b,_,rfl⟩:=au.mp hy;exact VL (n+4) b];rfl
theorem Mg (l:List bC):cmpD .Eq (.list (l.map rdD)) (.list [])=.ok (decide (l=[])):=by show(if(aG 40 (.list (l.map rdD))&&aG 40 (.list []))=Z7 then Res.ok (cc (.list (l.map rdD)) (.list []))else .no)=_;rw[xh (by show(dM 39 (l.map rdD)&&Z7)=Z7;rw[iC.mpr λy hy=>by obtain⟨e,_,rfl⟩:=au.mp hy;exact Gg 32 e];rfl)];cases l<;>rfl
section
variable {Z:Wc}{H:Hp}{D0:Ends}{rows:List cQ}{es:bA}{bk:Str->List Ru}{hd:List P}{fa:P->P}{cl:Str}{ask:D}{f:List (List Str)->Bool}{va vb vt:V}
theorem zo7 (N:Z.Κ=[])(O:Z.Φ=Φs)(f0:Z.fn[0]?=Z9 (spRd Z.K))(a:StA Z.K H rows es bk hd fa cl ask f va vb vt)
  (q:∀g t p ws,Same H g->g t=Z9 (.tup [.str (mT f (run5 bk (hd.map fa) rows)),.ref p])->H p=Z8->g p=Z9 (.lst ws)->Reps Z.K g (Mi.nw H) ws ((iN f (run5 bk (hd.map fa) rows)).map rdD)->D0.rt (.ref t) g):wS Z L65.st D0 [Z9 va,Z9 vb,Z9 vt,Z9 (.str cl),Z8,Z8,Z8,Z8,Z8] H:=by
 have sl:∀{g:Hp} {o4 o5 o6 o7 M:Option V} {r4 r5 P r7 r8:Option GD},Same H g->Sl Z.K g [o4,o5,o6,o7,M] [r4,r5,P,r7,r8]->Sl Z.K g [Z9 va,Z9 vb,Z9 vt,Z9 (.str cl),o4,o5,o6,o7,M] [Z9 (.od,.list (rows.map dJ)),Z9 (.od,.dict es),Z9 (.od,.list (hd.map pk)),Z9 (.od,.str cl),r4,r5,P,r7,r8]:=λ{g o4 o5 o6 o7 M r4 r5 P r7 r8} s t=>.da (a.ra.same s λ_ z=>z) (.da (a.rb.same s λ_ z=>z) (.da (a.rt.same s λ_ z=>z) (.da (B:=AnyB) ⟨rfl,a.sc⟩ t)));refine bN (bX N O (sl (Same.refl H) (.no (.no (.no (.no (.no .nil)))))) (fN (z00 (z02 rfl) (z00 (z02 rfl) z09)) rfl a.ha) λv4 H1 s1 r4=>?_);refine bN (bX N O (sl s1 (.no (.no (.no (.no (.no .nil)))))) (Ev.of (Mb rfl a.hf rfl rfl)) λv5 H2 s2 r5=>?_);refine bN (fH (bD ⟨be _,λA h6=>?_⟩));refine bN (fH (bD ⟨be _,λC h7=>?_⟩));have Gh:A≠C:=λz=>by rw[<-z,aO]at h7;cases h7
 have Gi:Same H2 (upd (upd H2 A (.lst [])) C (.lst [])):=(Same.upd h6).trans (Same.upd h7);have e6:upd (upd H2 A (.lst [])) C (.lst []) A=Z9 (.lst []):=aA Gh▸aO;have e7:upd (upd H2 A (.lst [])) C (.lst []) C=Z9 (.lst []):=aO;generalize upd (upd H2 A (.lst [])) C (.lst [])=U at Gi e6 e7 ⊢;have nN:=(s1.trans s2).trans Gi
 let L:=run5 bk (hd.map fa) rows
 have bd:=Be (bk:=bk) (ths:=hd.map fa) (by rw[ae];exact a.hl) rows [([],(hd.map fa).map λ_=>[])] 0 0 (af 1) λx hx=>by rw[ak.mp hx];exact⟨ae ..,be _,λw hw=>by obtain⟨_,_,rfl⟩:=au.mp hw;exact be _⟩
 have two:=a.ok.two;have tw:=a.ok.tw;have lL:L.length<=256:=a8 bd.1 (jw (by decide) (by omega):16 ^ (0+(rows.filter dQ).length)<=16 ^ 2)
 have VM:∀p∈[A,C],∃o,U p=Z9 o:=λp I=>by
  rcases ao.mp I with rfl|I
  .exact⟨_,e6⟩
  .rw[ak.mp I];exact⟨_,e7⟩
 have kR:=L7 VM;have fl:∀{l:List bC} {p:bC->Bool},l.length<=256->(l.filter p).length<=256:=λh=>a8 (gt _ _) h
 have fin:∀{S T:List V} {M:Option V} {g:Hp},Same H2 g->g A=Z9 (.lst S)->g C=Z9 (.lst T)->Reps Z.K g (Mi.nw U) S ((L.filter λx=>f x.2).map rdD)->Reps Z.K g (Mi.nw U) T ((L.filter λx=>!f x.2).map rdD)->wS Z L65.LR D0 [Z9 va,Z9 vb,Z9 vt,Z9 (.str cl),Z9 v4,Z9 v5,Z9 (.ref A),Z9 (.ref C),M] g:=λ{S T M g} sH E m P r7=>by
  have Gj:=(s1.trans s2).trans sH;have Mh:∀{H4:Hp},Same g H4->Sl Z.K H4 [Z9 va,Z9 vb,Z9 vt,Z9 (.str cl),Z9 v4,Z9 v5,Z9 (.ref A),Z9 (.ref C),M] [Z9 (.od,.list (rows.map dJ)),Z9 (.od,.dict es),Z9 (.od,.list (hd.map pk)),Z9 (.od,.str cl),Z8,Z8,Z9 (.od,.list ((L.filter λx=>f x.2).map rdD)),Z9 (.od,.list ((L.filter λx=>!f x.2).map rdD)),Z8]:=λ{H4} F=>sl (Gj.trans F) (.no (.no (.da ⟨A,S,rfl,.inl ⟨F _ _ E,trivial⟩,(P.same F λ_ z=>z).weak λ_ _=>trivial⟩ (.da ⟨C,T,rfl,.inl ⟨F _ _ m,trivial⟩,(r7.same F λ_ z=>z).weak λ_ _=>trivial⟩ (.no .nil)))));have X:∀{s:Str} {H4:Hp} {x:W} {D1:Ends},D1.rt=D0.rt->s=mT f L->Same g H4->(∀J Q,Same g J->(∀p ws D,Same J D->J p=Z8->D p=Z9 (.lst ws)->Reps Z.K D (Mi.nw H) ws ((iN f L).map rdD)->Q (.ref p) D)->wE Z x [Z9 va,Z9 vb,Z9 vt,Z9 (.str cl),Z9 v4,Z9 v5,Z9 (.ref A),Z9 (.ref C),M] J Q)->wS Z (L65.A' s x) D1 [Z9 va,Z9 vb,Z9 vt,Z9 (.str cl),Z9 v4,Z9 v5,Z9 (.ref A),Z9 (.ref C),M] H4:=λ{s H4 x D1} er e F hx=>by refine fQ (vJ (aH (bX N O (zr _) fM.e λv J G r5=>?_)));obtain⟨rfl,_⟩:=r5;refine aH (hx J _ (F.trans G) λp ws D s6 np I rp=>bD ⟨by rw[bt];simp,λt ht=>?_⟩);rw[er];have ut:Same D (upd D t (.tup [.str s,.ref p])):=Same.upd ht;refine q _ t p ws (Gj.trans (F.trans (G.trans (s6.trans ut)))) ?_ ((Gj.trans (F.trans G)).none np) (ut _ _ I) (rp.same ut λ_ z=>z);rw[<-e];exact aO
  have nil:iN f L=[]->∀J Q,Same g J->(∀p ws D,Same J D->J p=Z8->D p=Z9 (.lst ws)->Reps Z.K D (Mi.nw H) ws ((iN f L).map rdD)->Q (.ref p) D)->wE Z (.lst .nil) [Z9 va,Z9 vb,Z9 vt,Z9 (.str cl),Z9 v4,Z9 v5,Z9 (.ref A),Z9 (.ref C),M] J Q:=λe J Q _ k=>fH (bD ⟨be _,λp I=>k p [] _ (Same.upd I) I aO (e▸rfl)⟩);have zA:∀{l:List bC} {i:Nat} {ρ:Rho},ρ[i]?=Z9 (Z9 (.od,.list (l.map rdD)))->Tt [] Φs (.tv (.cmp .Eq (.var i) (.lst .nil))) ρ (decide (l=[])):=λ{l i ρ} h=>aU (z0m (z02 h) (Ev.of (fZ dU)) (Mg l)).e rfl;refine bE (eW (hJ N O (Mh (Same.refl g)) (zA rfl) λH4 F=>?_));by_cases z1:(L.filter λx=>!f x.2)=[]
  .rw[xh (xp z1)];exact X rfl (by unfold mT;rw[xh z1]) F (nil (by unfold iN;rw[xh z1]))
  rw[xk (by rw[xq z1];decide)];refine bR Z (bE (eW (hJ N O (Mh F) (zA rfl) λJ G=>?_)));by_cases z2:(L.filter λx=>f x.2)=[]
  .rw[xh (xp z2)];exact X rfl (by unfold mT;rw[xk z1,xh z2]) (F.trans G) (nil (by unfold iN;rw[xk z1,xh z2]))
  rw[xk (by rw[xq z2];decide)];refine bR Z (X rfl (by unfold mT;rw[xk z1,xk z2]) (F.trans G) λD Q s6 k=>?_)
  have first:∀{ws:List V} {l:List bC} {p:Addr} {H7:Hp} {i:Nat} {Q:VK},l≠[]->Reps Z.K g (Mi.nw U) ws (l.map rdD)->Same g H7->H7 p=Z9 (.lst ws)->[Z9 va,Z9 vb,Z9 vt,Z9 (.str cl),Z9 v4,Z9 v5,Z9 (.ref A),Z9 (.ref C),M][i]?=Z9 (Z9 (.ref p))->(∀v H8,Same H7 H8->Reps Z.K H8 (Mi.nw H) [v] ((l.take 1).map rdD)->Q v H8)->wE Z (.mM (.raw i) (L65.i1 0)) [Z9 va,Z9 vb,Z9 vt,Z9 (.str cl),Z9 v4,Z9 v5,Z9 (.ref A),Z9 (.ref C),M] H7 Q:=λ{ws l p H7 i Q} kR r s7 I hi kq=>by
   cases l with
   |nil=>exact absurd rfl kR
   |cons y l=>obtain⟨v,r',rfl,ry,_⟩:=r;exact yU (aL hi (fO λH8 s8=>F9 (s8 _ _ I) rfl (by decide) (kq v H8 s8 ⟨v,[],rfl,(ry.same (s7.trans s8) λ_ z=>z).weak (nw.wk nN),rfl⟩)))
  refine fH (aH (first z2 P s6 (s6 _ _ E) rfl λv H7 s7 q1=>aH (first z1 r7 (s6.trans s7) (s7 _ _ (s6 _ _ m)) rfl λv' H8 s8 q2=>bD ⟨by rw[bt];simp,λp I=>?_⟩)));have up:Same H8 (upd H8 p (.lst [v,v'])):=Same.upd I;refine k p [v,v'] _ (s7.trans (s8.trans up)) ((s7.trans s8).none I) aO ?_;unfold iN;rw[xk z1,xk z2,bv];exact(q1.same (s8.trans up) λ_ z=>z).append (q2.same up λ_ z=>z)
 refine bE (zfr (λb vs j σ' g=>b≠A/\b≠C/\Same H2 g/\g b=Z9 (.lst vs)/\Reps Z.K g (Mi.nw U) vs (L.map rdD)/\∃S T M,σ'=[Z9 va,Z9 vb,Z9 vt,Z9 (.str cl),Z9 v4,Z9 v5,Z9 (.ref A),Z9 (.ref C),M]/\g A=Z9 (.lst S)/\g C=Z9 (.lst T)/\Reps Z.K g (Mi.nw U) S (((L.take j).filter λx=>f x.2).map rdD)/\Reps Z.K g (Mi.nw U) T (((L.take j).filter λx=>!f x.2).map rdD)) (λR hR=>?_) (λb vs j σ' g h=>SqL.of h.2.2.2.1) ?_ ?_)
 .refine dZ f0 (aH (aL rfl (aH (aL rfl (aH (aL rfl (bD ?_)))))));refine⟨rows,es,bk,hd,fa,va,vb,vt,rfl,⟨a.ok,a.ra.same nN λ_ z=>z,a.rb.same nN λ_ z=>z,a.rt.same nN λ_ z=>z,a.hf,a.hu,a.hl⟩,λH4 u F ru=>?_⟩;obtain⟨b,vs,rfl,nb,hb,rv⟩:=zt ru;exact hR b vs H4 (SqL.of hb) ⟨(λz=>by rw[z,e6]at nb;cases nb),(λz=>by rw[z,e7]at nb;cases nb),Gi.trans F,hb,rv,[],[],Z8,rfl,F _ _ e6,F _ _ e7,rfl,rfl⟩
 .rintro b vs j v σ' g hv ⟨b6,b7,sH,hb,kS,S,T,M,rfl,E,m,P,r7⟩ D2 mS nx
  obtain⟨d,oA,rd⟩:=Reps.eS kS hv;rw[ba]at oA;obtain⟨x,hx,rfl⟩:=bu.mp oA;have bx:=bd.2 x (bn hx);have tk:L.take (j+1)=L.take j++[x]:=by rw[fu,hx];rfl
  have lt:(L.take j).length<=256:=by rw[db];omega
  refine bE (eW (hJ N O (sl ((s1.trans s2).trans sH) (.da ((r4.same s2 λ_ z=>z).same sH λ_ z=>z) (.da (r5.same sH λ_ z=>z) (.no (.no (.da rd .nil)))))) (aU (z0q (z00 (z02 rfl) (z00 (z02 rfl) (z00 (iM (z02 rfl) z08.e rfl) z09))) rfl (a.hs x.2 (by rw[bx.n,ae]) λw hw=>a8 (bx.c w hw) (by omega)) rfl).e rfl) λJ G=>?_))
  have up:∀{p:Addr} {w:List V} {D:Hp},(p=A\/p=C)->J p=Z9 (.lst w)->D=upd J p (.lst (w++[v]))->Same H2 D/\D b=Z9 (.lst vs)/\(∀us ds,Reps Z.K g (Mi.nw U) us ds->Reps Z.K D (Mi.nw U) us ds)/\∀p',p'≠p->D p'=J p':=λ{p w D} I e eH=>by
   subst eH;have n2:H2 p=none:=by rcases I with rfl|rfl;exact h6;exact(Same.upd h6).none h7
   refine⟨λc ob ec=>?_,?_,λus ds r=>Reps.aA e (by rcases I with rfl|rfl<;>simp) kR (r.same G λ_ z=>z),λp' VN=>aA VN⟩
   .rw[aA λz=>by rw[z,n2]at ec;cases ec];exact G _ _ (sH _ _ ec)
   .rw[aA λz=>by rcases I with rfl|rfl;exact b6 z;exact b7 z];exact G _ _ hb
  have Mj:Reps Z.K g (Mi.nw U) [v] [rdD x]:=⟨v,[],rfl,rd,rfl⟩;have Ml:∀{w:List V} {l:List bC},Reps Z.K g (Mi.nw U) w (l.map rdD)->l.length<=256->w.length<bb:=λ{w l} r hl=>by have:=r.length;rw[ae]at this;rw[bt];omega
  cases hf:f x.2 with
  |true=>
   refine bE (qS (aL rfl ⟨.inl ⟨rfl,_,SqL.of (G _ _ E)⟩,aL rfl ⟨A,S,v,rfl,rfl,G _ _ E,Ml P (fl lt),?_⟩⟩));obtain⟨g1,g2,g3,g4⟩:=up (.inl rfl) (G _ _ E) rfl;refine bR Z (bR Z (nx _ _ ⟨b6,b7,g1,g2,g3 _ _ kS,S++[v],T,_,rfl,aO,?_,?_,?_⟩))
   .rw[g4 _ (Ne.symm Gh)];exact G _ _ m
   .rw[tk,gu,bv,jz,xh hf];exact g3 _ _ (P.append Mj)
   .rw[tk,gu,jz,xk (by rw[hf];decide)];rw[List.filter_nil,ce];exact g3 _ _ r7
  |false=>
   refine bE (qS (aL rfl ⟨.inl ⟨rfl,_,SqL.of (G _ _ m)⟩,aL rfl ⟨C,T,v,rfl,rfl,G _ _ m,Ml r7 (fl lt),?_⟩⟩));obtain⟨g1,g2,g3,g4⟩:=up (.inr rfl) (G _ _ m) rfl;refine bR Z (bR Z (nx _ _ ⟨b6,b7,g1,g2,g3 _ _ kS,S,T++[v],_,rfl,?_,aO,?_,?_⟩))
   .rw[g4 _ Gh];exact G _ _ E
   .rw[tk,gu,jz,xk (by rw[hf];decide)];rw[List.filter_nil,ce];exact g3 _ _ P
   .rw[tk,gu,bv,jz,xh (by rw[hf];rfl)];exact g3 _ _ (r7.append Mj)
 .rintro b vs σ' g ⟨b6,b7,sH,hb,kS,S,T,M,rfl,E,m,P,r7⟩
  rw[kS.length,ae,gn (af _)]at P r7;exact fin sH E m P r7
end
theorem Bg (q:wE Z v b H λv f=>wE Z o b f λx g=>wE Z k b g λy d=>(∃a c,x=.ref a/\DPut d a y v c/\e.nx b c)\/Cj x y v d λc=>e.nx b c):wS Z (.put o k v) e b H:=q
def Dw (H:Hp)(p:Addr)(a m:Int):Prop:=H p=Z9 (.lst [.int a,.int m])
def Ch (p:Addr)(H H':Hp):Prop:=∀b o,b≠p->H b=Z9 o->H' b=Z9 o
theorem Ch.of (s:Same H H'):Ch p H H':=λb o _ e=>s b o e
theorem Ch.trans (s:Ch p H H')(t:Ch p H' VO):Ch p H VO:=λb o n e=>t b o n (s b o n e)
theorem Ch.same (s:Ch p H a)(n:H0 p=Z8)(t:Same H0 H):Same H0 a:=λb o e=>s b o (λz=>by rw[z,n]at e;cases e) (t b o e)
theorem Ch.fix (s:Ch p H c)(d:Dw H p a m):∀b o,H b=Z9 o->Fix o->c b=Z9 o:=λb o e z=>s b o (λw=>by rw[w,show H p=_ from d]at e;cases e;exact z) e
theorem Ch.aM {K:Z5}(s:Ch p H b)(w:Dw H p a m)(i:aM d=Z7)(r:Rep K H B v d):Rep K b B' v d:=(Rep.keep (B:=NoB) (λx c e z=>s.fix w x c e (z.elim (λz=>z.elim) _root_.id)) (λ_ z=>z) _ (Rep.aT _ i r)).weak λ_ z=>z.elim
theorem Dw.rep {K:Z5}(d:Dw H p a m):Rep K H AnyB (.ref p) (.list [.int a,.int m]):=⟨p,_,rfl,.inl ⟨d,trivial⟩,⟨_,_,rfl,rfl,⟨_,_,rfl,rfl,rfl⟩⟩⟩
def spDn (K:Z5):Sp:=λvs H Q _=>∃c b,vs=[.int c,.bl b]/\∀H' p a m,H p=Z8->Same H H'->Dw H' p a m->Q (.ref p) H'
def spDr (K:Z5):Sp:=λvs H Q _=>∃p a m n,vs=[.ref p,.int n]/\Dw H p a m/\0<n/\n<2 ^ 200/\∀H' r a',0<=r->r<n->Ch p H H'->Dw H' p a' m->Q (.int r) H'
def zD (K:Z5):Sp:=λvs H Q _=>∃p a m b,vs=[.ref p,.bl b]/\Dw H p a m/\∀H' r a',0<=r/\r<1000000000000000000000000000001->Ch p H H'->Dw H' p a' m->Q (.int r) H'
section
variable {Z:Wc}{H:Hp}{D0:Ends}{p:Addr}{a m n c:Int}{b:Bool}
theorem VP (f:Z.Κ=[])(g:Z.Φ=[])(q:∀d p a m,H p=Z8->Same H d->Dw d p a m->D0.rt (.ref p) d):wS Z L65.dn D0 [Z9 (.int c),Z9 (.bl b)] H:=by
 have sl:∀{d:Hp},Sl Z.K d [Z9 (.int c),Z9 (.bl b)] [Z9 (.od,.int c),Z9 (.od,.bool b)]:=λ{d}=>.fP (.da (B:=AnyB) rfl .nil);refine bE (eW (hJ f g sl (aU (z02 rfl) rfl) λn j=>?_));cases b with
 |true=>refine fQ (fH (aH (aL (Z:=Z) rfl ⟨c,rfl,?_⟩)));exact aH (fO λl h=>bD ⟨by rw[bt];simp,λp i=>q _ p _ 0 ((j.trans h).none i) ((j.trans h).trans (Same.upd i)) aO⟩)
 |false=>refine bR Z (fQ (fH (aH (bX f g sl (dC (z02 rfl) z08.e (kZ (by decide)) rfl).e λv l h r=>?_))));obtain rfl:v=.int (c%2147483629):=r;exact aH (fO λo k=>bD ⟨by rw[bt];simp,λp i=>q _ p _ 1 ((j.trans (h.trans k)).none i) ((j.trans (h.trans k)).trans (Same.upd i)) aO⟩)
theorem VQ (hκ:Z.Κ=[])(hφ:Z.Φ=[])(d:Dw H p a m)(h0:0<n)(h1:n<2 ^ 200)(q:∀H' r a',0<=r->r<n->Ch p H H'->Dw H' p a' m->D0.rt (.int r) H'):wS Z L65.dr D0 [Z9 (.ref p),Z9 (.int n),Z8] H:=by
 have sl:∀{H':Hp} {a':Int} {o2:Option V} {r2:Option GD},Dw H' p a' m->Sl Z.K H' [o2] [r2]->Sl Z.K H' [Z9 (.ref p),Z9 (.int n),o2] [Z9 (.od,.list [.int a',.int m]),Z9 (.od,.int n),r2]:=λ{H' a' o2 r2} d' t=>.da d'.rep (.fP t);have up:∀{H1 H2:Hp} {a':Int},Same H H1->Same H1 H2->Dw (upd H2 p (.lst ([V.int a,.int m].set 0 (.int a')))) p a' m/\Ch p H (upd H2 p (.lst ([V.int a,.int m].set 0 (.int a')))):=λ{H1 H2 a'} s1 s2=>⟨aO,λb o hb e=>by rw[aA hb];exact s2 _ _ (s1 _ _ e)⟩;have m0:∀x,0<=x%n:=λx=>i6 _ (by omega);have mn:∀x,x%n<n:=λx=>ku _ h0;have md:∀x,cE .Mod (.int x) (.int n)=.ok (.int (x%n)):=λx=>by show(if 0<n then Res.ok (ZZ (x%n))else .no)=_;rw[xh h0]
 refine bN (bX hκ hφ (sl d (.no .nil)) (v_ix (z02 rfl) z08.e rfl rfl).e λv2 H1 s1 r2=>?_);obtain rfl:v2=.int a:=r2;have d1:=s1 _ _ d;refine bE (eW (hJ hκ hφ (sl d1 (.fP .nil)) (b:=decide (m=0)) (aU (z0m (v_ix (z02 rfl) z08.e rfl rfl).e z08.e (by exact congrArg Res.ok (yJ _ _))).e rfl) λH2 s2=>?_));have d2:=s2 _ _ d1;by_cases z:m=0
 .rw[xh (xp z)];refine bE (Bg (bX hκ hφ (sl d2 (.fP .nil)) (dC (z02 rfl) (z02 rfl) (by show(if 0<n/\n<2 ^ 200 then Res.ok (ZZ (a/n))else .no)=_;rw[xh ⟨h0,h1⟩]) rfl).e λv3 H3 s3 r3=>aL rfl (fO λH4 s4=>.inr ?_)));obtain rfl:v3=.int (a/n):=r3;refine⟨p,[.int a,.int m],0,0,rfl,rfl,s4 _ _ (s3 _ _ d2),rfl,?_⟩;obtain⟨g1,g2⟩:=up (s1.trans s2) (s3.trans s4);refine fQ (bX hκ hφ (sl g1 (.fP .nil)) (dC (z02 rfl) (z02 rfl) (md a) rfl).e λv5 H5 s5 r5=>?_);obtain rfl:v5=.int (a%n):=r5;exact q _ _ _ (m0 _) (mn _) (g2.trans (.of s5)) (s5 _ _ g1)
 .rw[xk (by rw[xq z];decide)];refine bR Z (bE (Bg (bX hκ hφ (sl d2 (.fP .nil)) (d:=.int ((a*69621+48271)%2147483629)) (dC (dC (dC (z02 rfl) z08.e (ET (by decide)) rfl).e z08.e rfl rfl).e z08.e (kZ (by decide)) rfl).e λv3 H3 s3 r3=>aL rfl (fO λH4 s4=>.inr ?_))));obtain rfl:v3=.int ((a*69621+48271)%2147483629):=r3;refine⟨p,[.int a,.int m],0,0,rfl,rfl,s4 _ _ (s3 _ _ d2),rfl,?_⟩;obtain⟨g1,g2⟩:=up (s1.trans s2) (s3.trans s4);refine fQ (bX hκ hφ (sl g1 (.fP .nil)) (d:=.int ((a*69621+48271)%2147483629*16807%2147483647/64%n)) (dC (dC (dC (dC (v_ix (z02 rfl) z08.e rfl rfl).e z08.e (ET (by decide)) rfl).e z08.e (kZ (by decide)) rfl).e z08.e (FF (by decide) (by decide)) rfl).e (z02 rfl) (md _) rfl).e λv5 H5 s5 r5=>?_);obtain rfl:v5=.int ((a*69621+48271)%2147483629*16807%2147483647/64%n):=r5;exact q _ _ _ (m0 _) (mn _) (g2.trans (.of s5)) (s5 _ _ g1)
end
theorem Bh (q:wT Z a d H λc e=>if c=Z7 then R Z7 e else wT Z b d e R):wT Z (.qK a b) d H R:=q
theorem VR (q:wE Z a σ H λx H1=>wE Z b σ H1 λy H2=>oS Z.K (cE op) x y H2 Q):wE Z (.bin op a b) σ H Q:=q
abbrev lE:Int:=1000000000000000000000000000001
section
variable {Z:Wc}{H:Hp}{D0:Ends}{p:Addr}{a m:Int}{b:Bool}
theorem vT (f:Z.fn[0]?=Z9 (spDr Z.K))(g:σ[0]?=Z9 (Z9 (.ref p)))(d:Dw H p a m)(h0:0<n)(h:n<2 ^ 200)(hn:∀Q,(∀b,Same H b->Q (.int n) b)->wE Z i σ H Q)(q:∀b r c,0<=r->r<n->Ch p H b->Dw b p c m->Q (.int r) b):wE Z (L65.dw i) σ H Q:=by refine dZ f (aH (aL g (aH (hn _ λs e=>bD ⟨p,a,m,n,rfl,e _ _ d,h0,h,λb r c j k l o=>q b r c j k ((Ch.of e).trans l) o⟩))))
theorem Mm:Vv [] [] L65.big ρ (.int lE):=dC (dC z08.e z08.e (d:=.int 1000000000000000000000000000000) (by rfl) rfl).e z08.e (by rfl) rfl
theorem VS (hκ:Z.Κ=[])(hφ:Z.Φ=[])(f0:Z.fn[0]?=Z9 (spDr Z.K))(d:Dw H p a m)(q:∀H' r a',0<=r/\r<lE->Ch p H H'->Dw H' p a' m->D0.rt (.int r) H'):wS Z L65.cn D0 [Z9 (.ref p),Z9 (.bl b),Z8,Z8] H:=by
 have Gk:∀{σ:L2.St} {H1:Hp} n Q,(∀H',Same H1 H'->Q (.int n) H')->wE Z (L65.i1 n) σ H1 Q:=λn Q k=>fO k;have sl:∀{H':Hp} {a':Int} {o2 o3:Option V} {r2 r3:Option GD},Dw H' p a' m->Sl Z.K H' [o2,o3] [r2,r3]->Sl Z.K H' [Z9 (.ref p),Z9 (.bl b),o2,o3] [Z9 (.od,.list [.int a',.int m]),Z9 (.od,.bool b),r2,r3]:=λ{H' a' o2 o3 r2 r3} d' t=>.da d'.rep (.da (B:=AnyB) rfl t);have three:∀{H1:Hp} {a1:Int} {D1:Ends} {B:WS},D1.rt=D0.rt->Ch p H H1->Dw H1 p a1 m->wS Z (.seq (.ret (L65.dw (L65.i1 3))) B) D1 [Z9 (.ref p),Z9 (.bl b),Z8,Z8] H1:=λ{H1 a1 D1 B} er c1 d1=>fQ (vT f0 rfl d1 (by decide) (by decide) (Gk 3) λH' r a' g1 g2 g3 g4=>by rw[er];exact q H' r a' ⟨g1,by show r<1000000000000000000000000000001;omega⟩ (c1.trans g3) g4);refine bE (eW (Bh (hJ hκ hφ (sl d (.no (.no .nil))) (b:=b) (aU (z02 rfl) rfl) λH1 s1=>?_)));have d1:=s1 _ _ d;cases hb:b with
 |true=>rw[xh rfl,xh rfl,<-hb];exact three rfl (.of s1) d1
 |false=>
  rw[xk (by decide),<-hb];refine yV (vT f0 rfl d1 (by decide) (by decide) (Gk 2) λH2 r a2 g1 g2 g3 g4=>fO λH3 s3=>yT (B:=AnyB) (B':=AnyB) (dx:=.int r) (dy:=.int 0) rfl rfl (by exact congrArg Res.ok (yJ _ _)) λH4 s4=>⟨_,rfl,?_⟩);have c4:=(Ch.of s1).trans (g3.trans (.of (s3.trans s4)));have d4:=s4 _ _ (s3 _ _ g4);by_cases z:r=0
  .rw[xh (xp z)];exact three rfl c4 d4
  rw[xk (by rw[xq z];decide)];refine bR Z (bE (eW (hJ hκ hφ (sl d4 (.no (.no .nil))) (b:=decide (m=0)) (aU (z0m (v_ix (z02 rfl) z08.e rfl rfl).e z08.e (by exact congrArg Res.ok (yJ _ _))).e rfl) λH5 s5=>?_)));have d5:=s5 _ _ d4;have c5:=c4.trans (.of s5);by_cases zm:m=0
  .rw[xh (xp zm)];exact fQ (vT f0 rfl d5 (by decide) (by decide) (λQ k=>bX hκ hφ (zr _) Mm.e λv H6 s6 r6=>by obtain rfl:v=.int lE:=r6;exact k H6 s6) λH' r a' g1 g2 g3 g4=>q H' r a' ⟨g1,g2⟩ (c5.trans g3) g4)
  rw[xk (by rw[xq zm];decide)];refine bR Z (bN (fO λH6 s6=>?_));have d6:=s6 _ _ d5;refine bE (zdw hκ hφ (.no (.no (.no (.no .nil)))) (E3 (z00 z08.e z09) rfl) (λx=>x=p) (λx hx=>⟨.lst [.int a2,.int m],by rw[hx];exact d6,λz=>z⟩) (λj σ' H'=>Ch p H H'/\∃a',Dw H' p a' m/\∃i o3,σ'=[Z9 (.ref p),Z9 (.bl b),Z9 (.int i),o3]) (λH7 s7=>⟨(c5.trans (.of s6)).trans (.of s7),a2,s7 _ _ d6,0,Z8,rfl⟩) ?_ ?_)
  .rintro j y dd σ' H' H7 D2 hd ⟨c',a',d',i,o3,rfl⟩ s7 ry mS nx
   refine tQ ry (by simp) λw gG=>?_;have d7:=s7 _ _ d';refine bN (VR (bX hκ hφ (sl d7 (.fP (.no .nil))) (dC (z02 rfl) z08.e (ET (by decide)) rfl).e λv8 H8 s8 r8=>?_));obtain rfl:v8=.int (i*100000007):=r8;refine vT f0 rfl (s8 _ _ d7) (by decide) (by decide) (Gk _) λH9 r a9 g1 g2 g3 g4=>⟨AnyB,AnyB,.int (i*100000007),.int r,.int (i*100000007+r),rfl,rfl,rfl,λv Bi tR r10 _=>?_⟩;obtain rfl:v=.int (i*100000007+r):=r10;have Mn:=(Ch.of (s7.trans s8)).trans (g3.trans (.of tR));exact bR Z (nx _ _ ⟨c'.trans Mn,a9,tR _ _ g4,_,_,rfl⟩ λx o hx e=>Mn x o hx e)
  .rintro σ' H' ⟨c',a',d',i,o3,rfl⟩
   refine fQ (bX hκ hφ (.no (.no (.fP (.no .nil)))) (dC (z02 rfl) Mm.e (kZ (by decide)) rfl).e λv H8 s8 r8=>?_);obtain rfl:v=.int (i%lE):=r8;exact q _ _ _ (⟨i6 _ (by decide),ku _ (by decide)⟩) (c'.trans (.of s8)) (s8 _ _ d')
end
structure Mo (H:Hp)(ns:List Str)(an p:Addr)(a m:Int):Prop where
 na:H an=Z9 (.lst (ns.map V.str))
 so:∀s∈ns,Z2 s=Z7
 dw:Dw H p a m
 ne:an≠p
 hl:ns.length<=3
 hs:ns.Pairwise sl
 nm:∀n∈ns,n∈NM
structure mU (ns:List Str)(q:P):Prop where
 pk:PK q
 sub:(q.map (·.1)).Sublist ns
 up:∀x∈q,x.2<lE
theorem mU.len (h:mU ns q):q.length<=ns.length:=by have:=h.sub.length_le;rw[ae]at this;exact this
def spPc (K:Z5):Sp:=λvs H Q _=>∃ns an p a m b,vs=[.ref an,.ref p,.bl b]/\Mo H ns an p a m/\∀H' u q a',Ch p H H'->Dw H' p a' m->mU ns q->Rep K H' NoB u (pk q)->Q u H'
section
variable {Z:Wc}{H:Hp}{D0:Ends}{ns:List Str}{an p:Addr}{a m:Int}{b:Bool}
theorem VT (t:Z.Κ=[])(y:Z.Φ=[])(f0:Z.fn[0]?=Z9 (zD Z.K))(h:Mo H ns an p a m)(q:∀g u q F,Ch p H g->Dw g p F m->mU ns q->Rep Z.K g NoB u (pk q)->D0.rt u g):wS Z L65.pc D0 [Z9 (.ref an),Z9 (.ref p),Z9 (.bl b),Z8,Z8,Z8] H:=by
 refine bN (fH (bD ⟨be _,λl Q=>?_⟩));have N:l≠p:=λz=>by rw[z,show H p=_ from h.dw]at Q;cases Q
 have G:Same H (upd H l (.lst [])):=Same.upd Q;refine bE (za7 (λM j A g=>M=an/\Ch p H g/\∃(F:Int) (q:P) (C:List V) (X Y:Option V),Dw g p F m/\A=[Z9 (.ref an),Z9 (.ref p),Z9 (.bl b),Z9 (.ref l),X,Y]/\g l=Z9 (.lst C)/\Reps Z.K g NoB C (q.map pr)/\(q.map (·.1)).Sublist (ns.take j)/\∀x∈q,0<x.2/\x.2<lE) (λR hR=>aL rfl (hR an _ (SqL.of (G _ _ h.na)) ⟨rfl,.of G,a,[],[],Z8,Z8,G _ _ h.dw,rfl,aO,rfl,.refl _,λ_ h=>by cases h⟩)) (λM j A g hh=>by obtain⟨rfl,c,_⟩:=hh;exact SqL.of (c _ _ h.ne h.na)) ?_ ?_)
 .rintro M j v A g hv ⟨rfl,S,F,D,C,X,Y,T,rfl,I,rq,sub,pos⟩ D2 mS nx
  rw[ba]at hv;obtain⟨n,hn,rfl⟩:=bu.mp hv;have mem:=bn hn;have tk:ns.take (j+1)=ns.take j++[n]:=by rw[fu,hn];rfl
  have ql:D.length<=3:=by have h1:=sub.length_le;rw[ae,db]at h1;have:=h.hl;omega
  refine tQ (d:=.str n) (B:=AnyB) ⟨rfl,h.so n mem⟩ (by simp) λw gG=>?_;obtain⟨rfl,_⟩:=gG;refine bN (dZ f0 (aH (aL rfl (aH (aL rfl (bD ⟨p,F,m,b,rfl,T,λH1 r a1 r0 U d1=>?_⟩))))));have W:=U _ _ N I;have J:=Reps.keep (λx ob e z=>U.fix T x ob e (z.elim (λz=>z.elim) _root_.id)) (λ_ z=>z) _ rq;obtain⟨fl,ef⟩:=UZ (h.nm n mem);have sl:∀{E:Hp} {i:Int},Sl Z.K E [Z9 (.ref M),Z9 (.ref p),Z9 (.bl b),Z9 (.ref l),Z9 (.str n),Z9 (.int i)] [Z8,Z8,Z8,Z8,Z9 (.od,.str n),Z9 (.od,.int i)]:=λ{E i}=>.no (.no (.no (.no (.da (B:=AnyB) ⟨rfl,h.so n mem⟩ (.fP .nil)))));have ht:∀{i:Int},Tt [] [] (.tv (.cmp .Gt (.var 5) (.int 0))) [Z8,Z8,Z8,Z8,Z9 (.od,.str n),Z9 (.od,.int i)] (decide (0<i)):=λ{i}=>aU (z0m (z02 rfl) z08.e rfl).e rfl
  have O:∀{i:Int} {E:Hp},0<=i/\i<lE->Same H1 E->wS Z (.seq (.aZ (.tp (.tv (.cmp .Gt (.var 5) (.int 0)))) (.seq (.app (.raw 3) (.aY (.tup (.cons (.var 4) (.cons (.var 5) .nil))))) .nil) .nil) .nil) D2 [Z9 (.ref M),Z9 (.ref p),Z9 (.bl b),Z9 (.ref l),Z9 (.str n),Z9 (.int i)] E:=λ{i E} i0 L=>by
   refine bE (eW (hJ t y sl ht λH3 G=>?_));have f:=L.trans G;by_cases z:0<i
   .rw[xh (xp z)];refine bE (qS (aL rfl ⟨.inl ⟨rfl,_,SqL.of (f _ _ W)⟩,bX t y sl (qG (dP (v_var rfl rfl) (dP (v_var rfl rfl) dU))).e λv H4 s4 r4=>?_⟩));have s:=f.trans s4;refine⟨l,C,v,rfl,rfl,s _ _ W,by rw[J.length,ae,bt];omega,bR Z (bR Z ?_)⟩;have ne:∀x,x≠l->upd H4 l (.lst (C++[v])) x=H4 x:=λx hx=>aA hx;refine nx _ _ ⟨rfl,λx o hx e=>?_,a1,D++[(n,i)],C++[v],_,_,?_,rfl,aO,?_,?_,λx hx=>?_⟩
    .rw[ne x λw=>by rw[w,Q]at e;cases e];exact s _ _ (U _ _ hx (S _ _ hx e))
    .show upd H4 l _ p=_;rw[ne p (Ne.symm N)];exact s _ _ d1
    .rw[bv];exact Reps.mP (s _ _ W) ((J.same s λ_ z=>z).append (Reps.cons (Rep.aT _ rfl r4) rfl))
    .rw[bv,tk];exact sub.append (.refl _)
    .rcases cr.mp hx with hx|hx
     .exact pos x hx
     .rw[ak.mp hx];exact⟨z,i0.2⟩
   .rw[xk (by rw[xq z];decide)];refine bR Z (bR Z ?_);refine nx _ _ ⟨rfl,S.trans (U.trans (.of f)),a1,D,C,_,_,f _ _ d1,rfl,f _ _ W,J.same f λ_ z=>z,?_,pos⟩;rw[tk];exact sub.trans (pz _ _)
  refine bE (eW (hJ t y sl (b:=decide (0<r)&&decide (fl=("w":Str))) (Kz ht λ_=>aU (z0m (k:=decide (fl=("w":Str))) (v_ix (z02 rfl) z08.e ef rfl).e fM.e (by show Res.ok _=_;rw[mR])).e rfl) λE L=>?_));cases hc:decide (0<r)&&decide (fl=("w":Str))with
  |true=>refine bN (fO λH3 G=>bR Z ?_);exact O (by decide) (L.trans G)
  |false=>exact bR Z (O r0 L)
 .rintro M A g ⟨rfl,S,F,D,C,X,Y,T,rfl,I,rq,sub,pos⟩
  rw[ae,gg]at sub;refine fQ (bX t y (ρ:=[Z8,Z8,Z8,Z9 (.od,.list (D.map pr)),Z8,Z8]) (.no (.no (.no (.da (B:=AnyB) ⟨l,C,rfl,.inl ⟨I,trivial⟩,rq.weak λ_ z=>z.elim⟩ (.no (.no .nil)))))) (sW (w:=(Z7,D.map pr)) (z02 rfl) rfl (ER _ _) (cA D)).e λv E L r2=>?_);exact q E v D F (S.trans (.of L)) (L _ _ T) ⟨⟨lv.mp (h.hs.sublist sub),λx hx=>(pos x hx).1⟩,sub,λx hx=>(pos x hx).2⟩ (Rep.aT _ (cA D) r2)
end
theorem zot {K:Z5}{g:TG}{tc:TT}{te:TE}{I:L2.St->L2.St}{Q:Addr->Hp->Prop}(wk:Walk K J NoB A (L.map pr))(d:Dw A p a m)
  (one:∀x∈L,∀v s a3 (N:Hp->Prop) M,Ch p A s->Dw s p a3 m->Rep K s NoB v (pr x)->(∀h B,Ch p s h->Dw h p B m->N h)->(∀y h B,Ch p s h->Dw h p B m->Rep K h NoB y (pr x)->M y h)->g v (I σ) s λn R=>eQ (I σ) n/\tc n R λb F=>if b=Z7 then te n F M else N F)
  (q:∀l vs (C:P) h B,A l=Z8->Ch p A h->Dw h p B m->h l=Z9 (.lst vs)->Reps K h NoB vs (C.map pr)->C.Sublist L->Q l h):
  ∀l,A l=Z8->∃P:Nat->Nat->List V->Hp->Prop,(∃m,P 0 m [] (upd A l (.lst [])))/\∀i m f j,P i m f j->(J.stop i j/\Q l j)\/(J.go i j/\f.length<bb/\∃N:List V->Hp->Prop,(∀t h,N t h->∃m',m'<m/\P (i+1) m' t h)/\∀x s,J.fJ i j x s->g x (I σ) s λn R=>eQ (I σ) n/\tc n R λb F=>if b=Z7 then te n F λy H6=>H6 l=Z9 (.lst f)/\N (f++[y]) (upd H6 l (.lst (f++[y])))else N f F):=by
 intro l hl;have lp:l≠p:=λz=>by rw[z,show A p=_ from d]at hl;cases hl
 let P:Nat->Nat->List V->Hp->Prop:=λi k f j=>k=L.length-i/\i<=L.length/\Ch p A j/\j l=Z9 (.lst f)/\∃(a2:Int) (C:Mk.P),Dw j p a2 m/\Reps K j NoB f (C.map pr)/\C.Sublist (L.take i)
 have fx:∀{j:Hp},Ch p A j->Kp NoB A j:=λ{j} c b o e z=>c.fix d b o e (z.elim (λz=>z.elim) _root_.id);refine⟨P,⟨_,rfl,be _,.of (Same.upd hl),aO,a,[],(Same.upd hl) _ _ d,rfl,.refl _⟩,?_⟩
 rintro i k f j ⟨rfl,hi,G,u,a2,C,d2,O,sub⟩
 have ll:(L.map pr).length=L.length:=ae ..;by_cases r:i<L.length
 .have S:f.length<bb:=by
   have h1:=O.length;have h2:=wk.len;have h3:=sub.length_le;rw[ae]at h1 h2;rw[db]at h3;omega
  have tk:L.take (i+1)=L.take i++[L[i]]:=by rw[fu,aq r];rfl
  refine .inr ⟨wk.go j (fx G) i (ll▸r),S,P (i+1) (L.length-(i+1)),λt h w=>⟨_,by omega,w⟩,λx s hy=>?_⟩;obtain⟨E,dd,hd,rx⟩:=wk.fJ j (fx G) i x s (ll▸r) hy;rw[ba,aq r]at hd;cases hd;have T:=E _ _ d2;have U:=G.trans (.of E);refine one L[i] (dq r) x s a2 _ _ U T rx (λh B D X=>?_) λy h B D X Y=>?_
  .refine⟨rfl,r,U.trans D,D _ _ lp (E _ _ u),B,C,X,?_,?_⟩
   .exact Reps.keep (λx Z e z=>D.fix T x Z e (z.elim (λz=>z.elim) _root_.id)) (λ_ z=>z) _ (O.same E λ_ z=>z)
   .rw[tk];exact sub.trans (pz _ _)
  .have H:=D _ _ lp (E _ _ u);refine⟨H,rfl,r,λb o hb e=>?_,aO,B,C++[L[i]],?_,?_,?_⟩
   .rw[aA λz=>by rw[z,hl]at e;cases e];exact D _ _ hb (U _ _ hb e)
   .show upd h l _ p=_;rw[aA (Ne.symm lp)];exact X
   .rw[bv];exact Reps.mP H ((Reps.keep (λx Z e z=>D.fix T x Z e (z.elim (λz=>z.elim) _root_.id)) (λ_ z=>z) _ (O.same E λ_ z=>z)).append (Reps.cons Y rfl))
   .rw[tk];exact sub.append (.refl _)
 .have xY:i=L.length:=by omega
  subst xY;refine .inl ⟨by rw[<-ll];exact wk.stop j (fx G),q l f C j a2 hl G d2 u O ?_⟩;rw[gg]at sub;exact sub
theorem VU (q:wE Z a σ H λx b=>rAgg Z.K "tuple" [x] b Q):wE Z (.yO a) σ H Q:=q
theorem VW (hit:∀R,(∀j H1,j<1000->(∃Pv:Nat->L2.St->Hp->Prop,Pv 0 σ H1/\(∀k σ' H',k<j->Pv k σ' H'->∀D2,D2.rt=D0.rt->(∀cB H3,Pv (k+1) cB H3->D2.nx cB H3)->wS Z b D2 (σ'.set i (Z9 (.int k))) H')/\∀σ' H',Pv j σ' H'->D0.nx σ' H')->R (.int j) H1)->wE Z n σ H R):wS Z (.j' i n b) D0 σ H:=by refine hit _ λj H1 hj ⟨Pv,h0,hs,hd⟩=>⟨j,rfl,by omega,by omega,?_⟩;refine zf0 Pv h0 (λk σ' H' hk p=>?_) hd;rw[Int.zero_add];exact hs k σ' H' hk p _ rfl λcB H3 w=>w
section
variable {Z:Wc}{H:Hp}{D0:Ends}{o:Op}{cs:List Cs}{p:Addr}{a m:Int}{b:Bool}{vr vc:V}{c:Cs}
theorem Gn (s:Bool)(f g:P):ixD (kF f g) (.int (if s then 0 else 1))=.ok (pk (own s f g)):=Lv s f g
theorem VX {r:Int}(h0:0<=r)(h1:r<2):∃s:Bool,r=if s then 0 else 1:=by
 have:r=0\/r=1:=by omega
 rcases this with rfl|rfl
 .exact⟨Z7,rfl⟩
 .exact⟨Z6,rfl⟩
theorem zrf {H1:Hp}{ns:List Str}{p:Addr}{a1:Int}{k:Int}{ρ:Rho}{σ:L2.St}{Q:VK}{Φ:List Fn}(hκ:Z.Κ=[])(hφ:Z.Φ=Φ)(f1:Z.fn[1]?=Z9 (spPc Z.K))(s:Sl Z.K H1 σ ρ)(h0:σ[0]?=Z9 (Z9 (.ref p)))(h2:σ[2]?=Z9 (Z9 (.bl b)))(d1:Dw H1 p a1 m){fs:List Str}(so:SO fs ns)
  (ex:Ev [] Φ (.ix (.var 1) (.int k)) ρ (tS fs)) (q:∀H' u q a',Ch p H1 H'->Dw H' p a' m->mU ns q->Rep Z.K H' NoB u (pk q)->Q u H'):wE Z (L65.F5 k) σ H1 Q:=by
 refine dZ f1 (aH (zu (ns:=ns) s.so (by rw[hκ,hφ];exact E2 ex rfl (so.ev _) (sU _)) λpn H2 s2 en=>aH (aL h0 (aH (aL h2 (bD ?_))))));have d2:Dw H2 p a1 m:=s2 _ _ d1;refine⟨ns,pn,p,a1,m,b,rfl,⟨en,λs hs=>U0 (so.nm s hs),d2,λz=>?_,a8 so.l2 (by decide),so.pw,so.nm⟩,λH' u q' a' g1 g2 g3 g4=>q H' u q' a' ((Ch.of s2).trans g1) g2 g3 g4⟩;rw[z,show H2 p=_ from d2]at en;cases ns with
 |nil=>cases en
 |cons n ns=>cases en
def spBo (K:Z5):Sp:=λvs H Q _=>∃o p a m b vr,vs=[.ref p,vr,.bl b]/\Dw H p a m/\Rep K H NoB vr (opD o)/\∀(H':Hp) (l:Addr) (ws:List V) (rs:List Ru),H l=Z8->Ch p H H'->H' l=Z9 (.lst ws)->Reps K H' NoB ws (rs.map ruD)->rs.length<=4->(∀r∈rs,∀s∈rs,agR r s=Z6)->Q (.ref l) H'
abbrev Φb:List Fn:=[Fy]
theorem VY (r:Ru):agR r r=false:=by unfold agR;rw[beq_self_eq_true];rfl
theorem zmw {g:List Ru}(j:Z.Κ=[])(n:Z.Φ=Φb)(f0:Z.fn[0]?=Z9 (spDr Z.K))(f1:Z.fn[1]?=Z9 (spPc Z.K))(d:Dw H p a m)(rr:Rep Z.K H NoB vr (opD o))(n3:A≠p)(e3:H A=Z9 (.lst ws))(r3:Reps Z.K H NoB ws (g.map ruD))(hl:g.length<=10)(ag:∀r∈g,∀s∈g,agR r s=Z6)
  (q:∀T a' U (E:List Ru) u5 u6 u7 u8 W,(∀b o,b≠p->b≠A->H b=Z9 o->T b=Z9 o)->Dw T p a' m->T A=Z9 (.lst U)->Reps Z.K T NoB U (E.map ruD)->E.length<=g.length+1->(∀r∈E,∀s∈E,agR r s=Z6)->D0.nx [Z9 (.ref p),Z9 vr,Z9 (.bl b),Z9 (.ref A),Z9 v4,u5,u6,u7,u8,W] T):
  wS Z L65.LS D0 [Z9 (.ref p),Z9 vr,Z9 (.bl b),Z9 (.ref A),Z9 v4,o5,o6,o7,o8,o9] H:=by
 have VZ:∀{P:Hp},Ch p H P->Rep Z.K P NoB vr (opD o):=λ{P} c1=>c1.aM d (FP o) rr;have X:∀{P:Hp} {Y:L2.St},Ch p H P->Sl Z.K P ([Z9 (.ref p),Z9 vr]++Y) ([Z8,Z9 (.od,opD o)]++bc Y.length Z8):=λ{P Y} c1=>.no (.da (VZ c1) (zr Y));refine bN (zrf j n f1 (X (.of (Same.refl H))) rfl rfl d o.of (v_ix (z02 rfl) z08.e rfl (tM _)).e λH2 u2 q2 a2 c2 d2 k2 r2=>?_);refine bN (vJ (aH (aL rfl (aH (zrf j n f1 (X c2) rfl rfl d2 o.og (v_ix (z02 rfl) z08.e rfl (tM _)).e λH3 u3 q3 a3 c3 d3 k3 V0=>bD ⟨by rw[bt];simp,λt ht=>?_⟩)))));have u:Same H3 (upd H3 t (.tup [u2,u3])):=Same.upd ht;have O:=c2.trans (c3.trans (.of u))
 let c:Cs:=(⟨q2,k2.pk,a8 k2.len o.of.l2⟩,⟨q3,k3.pk,a8 k3.len o.og.l2⟩)
 have r6:Rep Z.K (upd H3 t (.tup [u2,u3])) NoB (.ref t) (cD c):=⟨t,_,rfl,bF.of aO,u2,[u3],rfl,(c3.aM d2 (cA q2) r2).same u λ_ z=>z,u3,[],rfl,V0.same u λ_ z=>z,rfl⟩;have dA:=u _ _ d3;generalize upd H3 t (.tup [u2,u3])=HA at O r6 dA ⊢;refine bN (vT f0 rfl dA (by decide) (by decide) (λQ k=>fO k) λH4 r a4 g1 g2 c4 d4=>?_);obtain⟨s,rfl⟩:=VX g1 g2;have Mp:Rep Z.K H4 NoB (.ref t) (cD c):=c4.aM dA (FK c) r6;have sl:∀{H5:Hp} {x8 x9:Option V} {y8 y9:Option GD},Rep Z.K H5 NoB (.ref t) (cD c)->Sl Z.K H5 [x8,x9] [y8,y9]->Sl Z.K H5 [Z9 (.ref p),Z9 vr,Z9 (.bl b),Z9 (.ref A),Z9 v4,Z9 u2,Z9 (.ref t),Z9 (.int (if s then 0 else 1)),x8,x9] [Z8,Z8,Z8,Z8,Z8,Z8,Z9 (.od,cD c),Z9 (.od,.int (if s then 0 else 1)),y8,y9]:=λ{H5 x8 x9 y8 y9} r t=>.no (.no (.no (.no (.no (.no (.da r (.fP t)))))));have C:PK (own s c.1.1 c.2.1)/\(own s c.1.1 c.2.1).length<=2:=by cases s;exact c.2.2;exact c.1.2
 refine bN (VU (K1 (bX j n (sl Mp (.no (.no .nil))) (v_ix (z02 rfl) (z02 rfl) (Gn s _ _) (cA _)).e λw H6 s6 gG=>⟨NoB,_,(own s c.1.1 c.2.1).map pr,Rep.aT _ (cA _) gG,rfl,λJ wk=>?_⟩)));refine zot wk (s6 _ _ d4) (λx hx v H7 a7 N M c7 d7 rv hN hM=>?_) λl vs ys H7 a7 Yq c7 d7 el V1 sub=>?_
 .refine zl8 (σ:=[Z8,Z9 (.ref p)]) rv (by simp) λσ' u hlen e0 ru rest=>⟨LY hlen rest,?_⟩;refine yV (dZ f0 (aH (aL (rest 1 (by decide)) (aH (fO λH8 s8=>bD ⟨p,a7,m,2,rfl,s8 _ _ d7,by decide,by decide,λH9 r' a9 k1 k2 k3 k4=>?_⟩)))));refine fO λF f=>yT (B:=AnyB) (B':=AnyB) (dx:=.int r') (dy:=.int 0) rfl rfl (by exact congrArg Res.ok (yJ _ _)) λi tT=>⟨_,rfl,?_⟩;have R:=(Ch.of s8).trans (k3.trans (.of (f.trans tT)));have Mq:=(f.trans tT) _ _ k4;by_cases z:r'=0
  .rw[xh (xp z)];exact aL e0 (hM u i a9 R Mq (R.aM d7 rfl ru))
  .rw[xk (by rw[xq z];decide)];exact hN i a9 R Mq
 refine⟨AnyB,.ref l,.list (ys.map pr),Z7,ys.map pr,pk ys,rfl,⟨l,vs,rfl,.inl ⟨el,trivial⟩,V1.weak λ_ z=>z.elim⟩,rfl,ER _ _,λu8 H8 s8 V2=>?_⟩;have Mr:=(Ch.of s6).trans (c7.trans (.of s8))
 let x:Q2:=⟨ys,⟨C.1.sd.sublist sub,λp hp=>C.1.pos p (sub.subset hp)⟩,a8 sub.length_le C.2⟩
 have eu:ruD (s,c.1,c.2,x)=.tuple [cD c,.str (sd s),pk x.1]:=by cases s<;>rfl
 refine bN (bX j n (sl (Mr.aM d4 (FK c) Mp) (.da (Rep.aT (B':=NoB) _ (cA ys) V2) (.no .nil))) (d:=ruD (s,c.1,c.2,x)) ?_ λW H9 s9 G=>?_)
 .rw[eu];exact(qG (dP (v_var rfl (FK c)) (dP (v_ix (Ev.of (fZ (dP fM (dP fM dU)))) (z02 rfl) (by cases s<;>rfl) rfl) (dP (v_var rfl (cA _)) dU)))).e
 have G:Rep Z.K H9 NoB W (ruD (s,c.1,c.2,x)):=Rep.aT _ (hW _) G;have S:=(O.trans (c4.trans Mr)).trans (.of s9);have d9:=s9 _ _ (s8 _ _ d7);have D:=S _ _ n3 e3;have I:=Reps.keep (λx ob e z=>S.fix d x ob e (z.elim (λz=>z.elim) _root_.id)) (λ_ z=>z) _ r3;have ec:Ev [] Φb (.comp 1 [9] ["_law_two","_law_one"] (.nm 0) (.tv (.var 3)) .nil (.call 0 "_law_against" (.cons (.var 1) (.cons (.var 0) .nil)))) [Z8,Z8,Z8,Z9 (.od,.list (g.map ruD)),Z8,Z8,Z8,Z8,Z8,Z9 (.od,ruD (s,c.1,c.2,x))] (.list ((g.map λy=>agR (s,c.1,c.2,x) y).map .bool)):=by have:=z24 (Κ:=[]) (Φ:=Φb) (ρ:=[Z8,Z8,Z8,Z9 (.od,.list (g.map ruD)),Z8,Z8,Z8,Z8,Z8,Z9 (.od,ruD (s,c.1,c.2,x))]) (nt:=1) (js:=[9]) (N':=["_law_two","_law_one"]) (tg:=.nm 0) (it:=.tv (.var 3)) (elt:=.call 0 "_law_against" (.cons (.var 1) (.cons (.var 0) .nil))) (λ_=>Z7) (λy=>.bool (agR (s,c.1,c.2,x) y)) (bI rfl rfl) rfl (λy=>[Z9 (.al,ruD y),Z9 (.od,ruD (s,c.1,c.2,x))]) (λy _=>tL (hW y)) (λ_ _=>qH) λy _ _=>z0q (z00 (z02 rfl) (z00 (z02 rfl) z09)) rfl (UW _ y) rfl;rw[gq.mpr λ_ _=>rfl]at this;rw[dg];exact Ev.of this
 refine bE (eW (hJ j n (.no (.no (.no (.da (B:=AnyB) (d:=.list (g.map ruD)) ⟨A,ws,rfl,.inl ⟨D,trivial⟩,I.weak λ_ z=>z.elim⟩ (.no (.no (.no (.no (.no (.da G .nil)))))))))) (b:=!(g.map λy=>agR (s,c.1,c.2,x) y).any id) (aU (z0m eV.e ec (UX _)).e rfl) λF f=>?_));have keep:∀{i:Hp},(∀b o,b≠A->F b=Z9 o->i b=Z9 o)->∀b o,b≠p->b≠A->H b=Z9 o->i b=Z9 o:=λ{i} k b o h1 h2 e=>k b o h2 (f _ _ (S _ _ h1 e));cases hc:(g.map λy=>agR (s,c.1,c.2,x) y).any id with
 |true=>refine bR Z (bR Z (q F a7 ws g _ _ _ _ _ (keep λ_ _ _ e=>e) (f _ _ d9) (f _ _ D) (I.same f λ_ z=>z) (wc _) ag))
 |false=>
  have hn:=λy L=>by have:=ui.mp hc _ (au.mpr ⟨y,L,rfl⟩);simpa using this
  have lw:=I.length;rw[ae]at lw;refine bE (qS (aL rfl ⟨.inl ⟨rfl,_,SqL.of (f _ _ D)⟩,aL rfl ⟨A,ws,W,rfl,rfl,f _ _ D,by rw[bt];omega,bR Z (bR Z ?_)⟩⟩));refine q _ a7 (ws++[W]) (g++[(s,c.1,c.2,x)]) _ _ _ _ _ (keep λb o h e=>by rw[aA h];exact e) ?_ aO ?_ (cg▸af _) λr hr y L=>?_
  .show upd F A _ p=_;rw[aA (Ne.symm n3)];exact f _ _ d9
  .rw[bv];exact Reps.mP (f _ _ D) ((I.same f λ_ z=>z).append (Reps.cons (G.same f λ_ z=>z) rfl))
  .rcases cr.mp hr with hr|hr<;>rcases cr.mp L with L|L
   .exact ag r hr y L
   .rw[ak.mp L,UY];exact hn r hr
   .rw[ak.mp hr];exact hn y L
   .rw[ak.mp hr,ak.mp L];exact VY _
theorem zt4 (hκ:Z.Κ=[])(hφ:Z.Φ=Φb)(f0:Z.fn[0]?=Z9 (spDr Z.K))(f1:Z.fn[1]?=Z9 (spPc Z.K))(d:Dw H p a m)(rr:Rep Z.K H NoB vr (opD o))
  (q:∀H' l ws (rs:List Ru),H l=Z8->Ch p H H'->H' l=Z9 (.lst ws)->Reps Z.K H' NoB ws (rs.map ruD)->rs.length<=4->(∀r∈rs,∀s∈rs,agR r s=Z6)->D0.rt (.ref l) H'):
  wS Z L65.bo D0 [Z9 (.ref p),Z9 vr,Z9 (.bl b),Z8,Z8,Z8,Z8,Z8,Z8,Z8] H:=by
 refine bN (fH (bD ⟨be _,λp3 h3=>?_⟩));have n3:p3≠p:=λz=>by rw[z,show H p=_ from d]at h3;cases h3
 have s3:Same H (upd H p3 (.lst [])):=Same.upd h3;have e3:upd H p3 (.lst []) p3=Z9 (.lst []):=aO;generalize upd H p3 (.lst [])=H0 at s3 e3 ⊢;refine bE (VW λR hR=>vT f0 rfl (s3 _ _ d) (by decide) (by decide) (λQ k=>fO k) λH1 r a1 g1 g2 c1 d1=>?_);obtain⟨j,rfl⟩:=qc g1;refine hR j H1 (by omega) ⟨λk σ' H'=>∃(a':Int) (ws:List V) (rs:List Ru) (u4 u5 u6 u7 u8 u9:Option V),Ch p H H'/\Dw H' p a' m/\H' p3=Z9 (.lst ws)/\Reps Z.K H' NoB ws (rs.map ruD)/\rs.length<=k/\(∀r∈rs,∀s∈rs,agR r s=Z6)/\σ'=[Z9 (.ref p),Z9 vr,Z9 (.bl b),Z9 (.ref p3),u4,u5,u6,u7,u8,u9],⟨a1,[],[],Z8,Z8,Z8,Z8,Z8,Z8,(Ch.of s3).trans c1,d1,c1 _ _ n3 e3,rfl,af 0,nofun,rfl⟩,?_,?_⟩
 .rintro k σ' H' hk ⟨a',ws,rs,u4,u5,u6,u7,u8,u9,c',d',e',r',l',ag,rfl⟩ D2 mS nx
  refine zmw hκ hφ f0 f1 d' (c'.aM d (FP o) rr) n3 e' r' (by omega) ag λH2 a2 V3 V4 x5 x6 x7 x8 x9 k2 d2 e2 r2 l2 V5=>nx _ _ ⟨a2,V3,V4,_,x5,x6,x7,x8,x9,λb o h1 e=>?_,d2,e2,r2,by omega,V5,rfl⟩;exact k2 b o h1 (λz=>by rw[z,h3]at e;cases e) (c' b o h1 e)
 .rintro σ' H' ⟨a',ws,rs,u4,u5,u6,u7,u8,u9,c',d',e',r',l',ag,rfl⟩
  exact fQ (aL rfl (q H' p3 ws rs h3 c' e' r' (by omega) ag))
end
theorem Ms:∀b k a,(∀t∈b,t.length<=n)->(textFrom k a b).length<=a.length+b.length*(n+2)
 | [],k,a,_=>by show a.length<=_;omega
 |t::r,k,a,h=>by
  have ht:=h t (.head _)
  have e:(a++(Str.ofString (if k>0 then ", "else "":String))++t).length<=a.length+(n+2):=by
   rw[mi,mi]
   have:(Str.ofString (if k>0 then ", "else "":String)).length<=2:=by
    split
    .exact af 2
    .exact be 2
   omega
  rw[bz,Nat.add_mul];refine a8 (Ms r (k+1) (a++(if k>0 then ", "else "":String)++t) λx hx=>h x (.tail _ hx)) ?_;omega
theorem tU (c:Z2 a=Z7)(d:Z2 b=Z7):Z2 (a++b)=true:=by
 unfold Z2 at *
 rw[Str.cps_append,Array.all_append,c,d];rfl
theorem tV (s:String):Z2 (Str.ofString s)=true:=by rw[Str.ofString_eq_toList];unfold Z2;rw[List.all_toArray,nr];refine bg.mpr λc _=>xp ?_;have:=c.valid;have e:c.toNat=c.val.toNat:=rfl;rcases this with h|h<;>omega
theorem Mt:∀ts k acc,Z2 acc=Z7->(∀t∈ts,Z2 t=Z7)->Z2 (textFrom k acc ts)=Z7
 | [],k,acc,h,_=>h
 |t::r,k,acc,h,ht=>Mt r (k+1) _ (tU (tU h (tV _)) (ht t (.head _))) λx hx=>ht x (.tail _ hx)
theorem Mu (hs:Z2 s=Z7):∀ts,(∀t∈ts,Z2 t=Z7)->Z2 (Str.join s ts)=Z7
 | [],_=>by show Z2 Str.empty=Z7;decide+kernel
 | [x],h=>h x (.head _)
 |x::y::r,h=>tU (tU (h x (.head _)) hs) (Mu hs (y::r) λz hz=>h z (.tail _ hz))
def UB (n:Nat)(d:D):Prop:=d.shown.length<=n/\d.showable=Z7/\Z2 d.shown=Z7
theorem UB.mono (h:UB n d)(l:n<=m):UB m d:=⟨a8 h.1 l,h.2⟩
theorem Mv:∀a:List D,ZV a=a.map PyData.shown
 | []=>rfl
 |x::a=>by rw[ZV,Mv a];rfl
theorem Mw:∀a:List D,PyData.showableAll a=a.all PyData.showable
 | []=>rfl
 |x::a=>by rw[PyData.showableAll,Mw a];rfl
theorem Mx (h:∀x∈xs,UB n x):(∀t∈ZV xs,t.length<=n)/\(ZV xs).length=xs.length/\PyData.showableAll xs=Z7/\∀t∈ZV xs,Z2 t=true:=by
 rw[Mv,Mw];refine⟨λt ht=>?_,ae ..,bg.mpr λx hx=>(h x hx).2.1,λt ht=>?_⟩
 .obtain⟨x,hx,rfl⟩:=au.mp ht;exact(h x hx).1
 .obtain⟨x,hx,rfl⟩:=au.mp ht;exact(h x hx).2.2
theorem Bj (h:∀x∈xs,UB n x):UB (2+xs.length*(n+2)) (.list xs):=by obtain⟨h1,h2,h3,h4⟩:=Mx h;refine⟨?_,by rw[PyData.showable];exact h3,by rw[PyData.shown];exact tU (Mt _ 0 _ (tV _) h4) (tV _)⟩;rw[PyData.shown];have:=Ms _ 0 "[" h1;unfold listText;rw[mi];rw[h2]at this;have e1:(Str.ofString "[").length=1:=rfl;have e2:(Str.ofString "]").length=1:=rfl;omega
theorem My:∀a,(∀t∈a,t.length<=n)->piled a<=a.length*(n+2)
 | [],_=>ur (by simp[piled])
 |t::r,h=>by
  have b:=My r λx hx=>h x (.tail _ hx);have ht:=h t (.head _);have e:piled (t::r)=t.length+2+piled r:=by simp[piled]
  rw[bz,Nat.add_mul];omega
theorem tW (h:∀x∈a,UB n x):UB (3+a.length*(n+2)) (.tuple a):=by
 obtain⟨b,c,d,e⟩:=Mx h;refine⟨?_,by rw[PyData.showable];exact d,by rw[PyData.shown];exact tU (tU (tV _) (Mu (tV _) _ e)) (tV _)⟩;rw[PyData.shown];have f:=My _ b;unfold tupleText;rw[mi,mi];have i:(Str.ofString "(").length=1:=rfl
 have g:(Str.ofString (if(ZV a).length==1 then ",)"else ")":String)).length<=2:=by
  split
  .exact af 2
  .exact wc 1
 rw[c]at f;by_cases z:ZV a=[]
 .rw[z]at g ⊢;have j:(Str.join ", " ([]:List Str)).length=0:=rfl;omega
 .have :=join_length_add _ z;omega
theorem Mz (h0:0<=i)(a:i<lE):UB 32 (.int i):=by
 have hn:i.natAbs<10 ^ 31:=by
  have:lE<=10 ^ 31:=by decide
  omega
 refine⟨?_,?_,by rw[PyData.shown];exact tV _⟩
 .rw[PyData.shown,PySem.ofString_length];exact int_text_length_le10 (by decide) hn
 .rw[PyData.showable];refine xp ?_;by_cases z:i.natAbs=0
  .rw[z];decide
  .exact lm ((Nat.log2_lt z).mpr (lm hn (by decide:10 ^ 31<2 ^ 200))) (by decide)
def SN:List Str:=["fa","fb","fc","wopen","wlate","wrude","wsum","for","against","must","never","open"]
theorem zE (h:s∈SN):UB 32 (.str s):=by
 have:SN.all (λs=>decide ((Z1 s).shown.length<=32)&&Z2 (Z1 s).shown)=true:=by decide+kernel
 obtain⟨h1,h2⟩:=az.mp (bg.mp this s h);exact⟨xn h1,rfl,h2⟩
def tX (q:P):Prop:=∀x∈q,x.1∈SN/\0<=x.2/\x.2<lE
theorem Gp (h:tX q)(l:q.length<=2):UB 200 (pk q):=by
 refine(tW (n:=71) λx hx=>?_).mono (by rw[ae];omega);obtain⟨y,b,rfl⟩:=au.mp hx;obtain⟨c,d,e⟩:=h y b;refine(tW λz a=>?_).mono (by show 3+2*34<=71;omega);rcases ao.mp a with rfl|a
 .exact zE c
 .rw[ak.mp a];exact Mz d e
def Bl (r:Ru):Prop:=tX r.2.1.1/\tX r.2.2.1.1/\tX r.2.2.2.1
theorem V6 (h:Bl r):UB 1300 (ruD r):=by
 have a:=(tW λx hx=>by
  rcases ao.mp hx with rfl|hx
  .exact Gp h.1 r.2.1.2.2
  .rw[ak.mp hx];exact Gp h.2.1 r.2.2.1.2.2).mono (by show 3+2*202<=407;omega)
 refine(tW λx hx=>?_).mono (by show 3+3*409<=1300;omega);rcases ao.mp hx with rfl|hx
 .exact a
 rcases ao.mp hx with rfl|hx
 .exact(zE (by cases r.1<;>decide)).mono (by omega)
 .rw[ak.mp hx];exact(Gp h.2.2 r.2.2.2.2.2).mono (by omega)
structure mV (x:bC):Prop where
 es:∀e∈x.1,e.1∈SN/\e.2.1<10/\Bl e.2.2
 ws:∀w∈x.2,∀s∈w,s∈SN
theorem V7 (h:mV x)(l1:x.1.length<=20)(l2:x.2.length<=10)(l3:∀w∈x.2,w.length<=20):UB 300000 (rdD x):=by
 have h1:UB 80000 (.list (x.1.map cR)):=(Bj λy hy=>by
  obtain⟨e,he,rfl⟩:=au.mp hy;obtain⟨e1,e2,e3⟩:=h.es e he;refine(tW λz hz=>?_).mono (by show 3+3*1302<=3910;omega);rcases ao.mp hz with rfl|hz
  .exact(zE e1).mono (by omega)
  rcases ao.mp hz with rfl|hz
  .exact(Mz (by omega) (by show(e.2.1:Int)<1000000000000000000000000000001;omega)).mono (by omega)
  .rw[ak.mp hz];exact V6 e3).mono (by rw[ae];omega)
 have h2:UB 80000 (.list (x.2.map dI)):=(Bj (n:=682) λy hy=>by obtain⟨w,hw,rfl⟩:=au.mp hy;refine(Bj (n:=32) λz hz=>?_).mono (by rw[ae];have:=Nat.mul_le_mul_right 34 (l3 w hw);omega);obtain⟨s,hs,rfl⟩:=au.mp hz;exact zE (h.ws w hw s hs)).mono (by rw[ae];omega);refine(tW λz hz=>?_).mono (by show 3+2*80002<=300000;omega);rcases ao.mp hz with rfl|hz
 .exact h1
 .rw[ak.mp hz];exact h2
theorem V8 (h:n∈NM):n∈SN:=by
 have:NM.all (λn=>decide (n∈SN))=true:=by decide+kernel
 exact xn (bg.mp this n h)
def vU (th:P):Prop:=∀n,look th n<lE
theorem MA (h:vU th)(hl:∀n∈l,n∈NM):tX (cv ws th l):=λx hx=>by
 obtain⟨h1,h2⟩:=fh.mp hx;obtain⟨n,hn,rfl⟩:=au.mp h1;refine⟨V8 (hl n hn),Int.le_of_lt (xn h2),?_⟩;show vv ws th n<lE;unfold vv;split
 .decide
 .exact h n
theorem MB (h:vU th):Bl (gF (iL o th ws) b):=by
 have h1:tX (iL o th ws).1.1:=MA h o.of.nm;have h2:tX (iL o th ws).2.1:=MA h o.og.nm;refine⟨h1,h2,?_⟩;cases b
 .exact h2
 .exact h1
theorem Gq (h:mV x)(ho:o.n∈SN)(c:∀e∈es,e.1∈SN/\e.2.1<10/\Bl e.2.2):mV (hX o k x es b) where
 es:=λe hm=>by
  rcases cr.mp hm with hm|hm
  .exact h.es e hm
  .exact c e hm
 ws:=λw a s hs=>by
  rcases j1 a with a|rfl
  .exact h.ws w a s hs
  .rcases cr.mp hs with hs|hs
   .rw[av]at hs;cases e:x.2[k]? with
    |none=>rw[e]at hs;cases hs
    |some w=>rw[e]at hs;exact h.ws w (bn e) s hs
   .cases b with
    |false=>cases hs
    |true=>rw[ak.mp hs];exact ho
theorem V9 (h:mV x)(ho:o.n∈SN)(hk:k<10)(ht:vU th)(a:y∈z18 o b k th x):mV y:=by
 unfold z18 at a;split at a
 .rw[ak.mp a];exact Gq h ho λ_ z=>by cases z
 .rcases ao.mp a with rfl|a
  .exact Gq h ho λe z=>by rw[ak.mp z];exact⟨ho,hk,MB ht⟩
  .rw[ak.mp a];exact Gq h ho λe z=>by rw[ak.mp z];exact⟨ho,hk,MB ht⟩
theorem MC (ho:o.n∈SN):∀a l,(∀t∈a,vU t.1/\t.2<10)->(∀x∈l,mV x)->∀x∈openK o b a l,mV x
 | [],_,_,h=>h
 |t::a,l,ht,h=>MC ho a (l.flatMap (z18 o b t.2 t.1)) (λu hu=>ht u (.tail _ hu)) λx hx=>by obtain⟨y,c,hx⟩:=List.mem_flatMap.mp hx;exact V9 (h y c) ho (ht t (.head _)).2 (ht t (.head _)).1 hx
theorem MD (hl:ths.length<=10)(ht:∀t∈ths,vU t):∀(a:List cQ) l,(∀o,cQ.op o∈a->o.n∈SN)->(∀n s,cQ.wd n s∈a->n∈SN)->(∀x∈l,mV x)->∀x∈a.foldl (eL bk ths) l,mV x
 | [],_,_,_,h=>h
 |r::a,l,b,c,h=>by
  refine MD hl ht a (eL bk ths l r) (λo ho=>b o (.tail _ ho)) (λn s hn=>c n s (.tail _ hn)) ?_;cases r with
  |op o=>refine MC (b o (.head _)) _ l (λt hm=>?_) h;have:=List.mem_zipIdx_iff_getElem?.mp hm;refine⟨ht _ (bn this),?_⟩;have:=(br.mp this).1;omega
  |wd n s=>
   intro x hx;obtain⟨y,d,rfl⟩:=au.mp hx;refine⟨(h y d).es,λw e u hu=>?_⟩;obtain⟨p,f,rfl⟩:=au.mp e;rcases cr.mp hu with hu|hu
   .exact(h y d).ws p.2 (g8 f).2 u hu
   .split at hu
    .rw[ak.mp hu];exact c n s (.head _)
    .cases hu
  |id k r=>exact h
theorem V' (x:GD):∃g,z1r x=(g,x.2):=by
 obtain⟨g,d⟩:=x;unfold z1r
 dsimp only
 split
 .exact⟨_,rfl⟩
 .cases g<;>cases d<;>exact⟨_,rfl⟩
theorem ME (h:Ev Κ Φ t ρ d):∃g,aW Κ Φ (.asg (.nm i) t) ρ=.ok (.nx (ρ.set i (Z9 (g,d)))):=by obtain⟨g,h⟩:=h;obtain⟨a,e⟩:=V' (g,d);exact⟨a,by rw[Aw,h,Res.aC,e]⟩
theorem Gr (a:∀i,t≠.var i)(h:Ev Κ Φ t ρ d):∃g,aW Κ Φ (.ret t) ρ=.ok (.rt g d):=by obtain⟨g,h⟩:=h;exact⟨_,by rw[E4 a,h];rfl⟩
theorem Wa (h:Aa Κ Φ args ρ ds):Ev Κ Φ (.lst args) ρ (.list ds):=by obtain⟨ys,h,e⟩:=h;exact⟨_,by rw[Kw,h,Res.aC,e]⟩
def lF (f:List (List Str)->Bool)(L:List bC):D:=.tuple [.str (mT f L),.list ((iN f L).map rdD)]
def eI (ths:List P)(a:Ak)(hs:List (List Str)):Bool:=lD (ths.zip hs) a
theorem qT {c d:Type}:∀{a:List c} {b:List d},b.length=a.length->(a.zip b).map (·.1)=a/\(a.zip b).map (·.2)=b
 | [],[],_=>⟨rfl,rfl⟩
 |x::a,y::b,h=>by obtain⟨e,f⟩:=qT (by simpa using h);exact⟨congrArg (x:: ·) e,congrArg (y:: ·) f⟩
theorem MF {a:List P}(h:hs.length=a.length):a.map pk=(a.zip hs).map (λt:Th=>pk t.1)/\hs.map dI=(a.zip hs).map wl:=by
 obtain⟨b,c⟩:=qT h;constructor
 .conv=>lhs;rw[<-b]
  rw[dg];rfl
 .conv=>lhs;rw[<-c]
  rw[dg];rfl
theorem MG {a:List P}(b:∀t∈a,PK t):∀t∈a.zip hs,PK t.1:=λt ht=>b _ (g8 (show(t.1,t.2)∈a.zip hs from ht)).1
theorem Wb (hp:∀t∈ths,PK t)(hl:ths.length<=10)(h:hs.length=ths.length)(h1:da a<=3)(h2:sk a):nI 3 [bP a,.list (ths.map pk),.list (hs.map dI)]=.ok (.fr,.bool (eI ths a hs)):=by obtain⟨e1,e2⟩:=MF h;rw[e1,e2];exact LN (MG hp) (by grind) 3 a h1 h2
theorem Wd (hp:∀t∈ths,PK t)(hl:ths.length<=10)(h:hs.length=ths.length)(h1:da a<=3)(h2:sk a):hF 3 [bP a,.list (ths.map pk),.list (hs.map dI)]=.ok (.fr,.bool (eI ths a hs)):=by obtain⟨e1,e2⟩:=MF h;rw[e1,e2];exact A9 (MG hp) (by grind) 3 a h1 h2
theorem Wf (q:∀t∈b,PK t)(hl:b.length<=10)(r:da a<=3)(s:sk a)(u:∀x∈L,x.2.length=b.length):∃g,Fz [bP a,.list (b.map pk),.list (L.map rdD)]=.ok (g,lF (eI b a) L):=by
 suffices ∃g,aW [] [hF 3] AU [Z9 (.od,bP a),Z9 (.od,.list (b.map pk)),Z9 (.od,.list (L.map rdD)),Z8,Z8]=.ok (.rt g (lF (eI b a) L)) by obtain⟨g,h⟩:=this;exact⟨g,(λh=>dY h) h⟩
 unfold AU;have k:∀x∈L,Tt [] [hF 3] (.tv (.call 0 "_law_so" (.cons (.var 1) (.cons (.var 2) (.cons (.ix (.var 0) (.int 1)) .nil))))) [Z9 (.od,rdD x),Z9 (.od,bP a),Z9 (.od,.list (b.map pk))] (eI b a x.2):=λx hx=>aU (z0q (z00 (z02 rfl) (z00 (z02 rfl) (z00 (iM (z02 rfl) z08.e rfl) z09))) rfl (Wd q hl (u x hx) r s) rfl).e rfl;obtain⟨f,v⟩:=ME (z8y (ρ:=[Z9 (.od,bP a),Z9 (.od,.list (b.map pk)),Z9 (.od,.list (L.map rdD)),Z8,Z8]) (nt:=1) (js:=[0,1]) (tg:=.nm 0) (it:=.tv (.var 2)) (cond:=.tv (.call 0 "_law_so" (.cons (.var 1) (.cons (.var 2) (.cons (.ix (.var 0) (.int 1)) .nil))))) (elt:=.var 0) (λx=>eI b a x.2) rdD (bI rfl rfl) rfl (λx=>[Z9 (.od,rdD x),Z9 (.od,bP a),Z9 (.od,.list (b.map pk))]) (λx _=>rfl) k λx _ _=>z02 rfl);obtain⟨m,w⟩:=ME (z8y (ρ:=[Z9 (.od,bP a),Z9 (.od,.list (b.map pk)),Z9 (.od,.list (L.map rdD)),Z9 (f,.list ((L.filter λx=>eI b a x.2).map rdD)),Z8]) (nt:=1) (js:=[0,1]) (tg:=.nm 0) (it:=.tv (.var 2)) (cond:=.not (.tv (.call 0 "_law_so" (.cons (.var 1) (.cons (.var 2) (.cons (.ix (.var 0) (.int 1)) .nil)))))) (elt:=.var 0) (λx=>!eI b a x.2) rdD (bI rfl rfl) rfl (λx=>[Z9 (.od,rdD x),Z9 (.od,bP a),Z9 (.od,.list (b.map pk))]) (λx _=>rfl) (λx hx=>Ac (k x hx)) λx _ _=>z02 rfl);rw[eG v rfl];show ∃g,aW [] [hF 3] (.seq (.asg (.nm 4) _) _) [Z9 (.od,bP a),Z9 (.od,.list (b.map pk)),Z9 (.od,.list (L.map rdD)),Z9 (f,.list ((L.filter λx=>eI b a x.2).map rdD)),Z8]=_;rw[eG w rfl];have c:∀{l:List bC} {i:Nat} {d:Rho} {g:G},d[i]?=Z9 (Z9 (g,.list (l.map rdD)))->Tt [] [hF 3] (.tv (.cmp .Eq (.var i) (.lst .nil))) d (decide (l=[])):=λ{l i d g} h=>aU (z0m (z02 h) (Ev.of (fZ dU)) (Mg l)).e rfl;unfold lF mT iN;by_cases j:(L.filter λx=>!eI b a x.2)=[]
 .rw[xh j,xh j];obtain⟨g,e⟩:=Gr (t:=.tup (.cons (.str "must") (.cons (.lst .nil) .nil))) (ρ:=[Z9 (.od,bP a),Z9 (.od,.list (b.map pk)),Z9 (.od,.list (L.map rdD)),Z9 (f,.list ((L.filter λx=>eI b a x.2).map rdD)),Z9 (m,.list ((L.filter λx=>!eI b a x.2).map rdD))]) nofun ⟨_,rfl⟩;exact⟨g,z07 (z1d (c rfl) (λ_=>z07 e) λz=>(xo z j).elim)⟩
 rw[xk j,xk j];by_cases o:(L.filter λx=>eI b a x.2)=[]
 .rw[xh o,xh o];obtain⟨g,e⟩:=Gr (t:=.tup (.cons (.str "never") (.cons (.lst .nil) .nil))) (ρ:=[Z9 (.od,bP a),Z9 (.od,.list (b.map pk)),Z9 (.od,.list (L.map rdD)),Z9 (f,.list ((L.filter λx=>eI b a x.2).map rdD)),Z9 (m,.list ((L.filter λx=>!eI b a x.2).map rdD))]) nofun ⟨_,rfl⟩;exact⟨g,bO (c rfl) (xq j) (z07 (z1d (c rfl) (λ_=>z07 e) λz=>(xo z o).elim))⟩
 obtain⟨y,l,A⟩:=n9 o;obtain⟨n,p,en⟩:=n9 j;obtain⟨g,e⟩:=Gr (t:=.tup (.cons (.str "open") (.cons (.lst (.cons (.ix (.var 3) (.int 0)) (.cons (.ix (.var 4) (.int 0)) .nil))) .nil))) (ρ:=[Z9 (.od,bP a),Z9 (.od,.list (b.map pk)),Z9 (.od,.list (L.map rdD)),Z9 (f,.list ((y::l).map rdD)),Z9 (m,.list ((n::p).map rdD))]) nofun (by have B:Ev [] [hF 3] (.ix (.var 3) (.int 0)) [Z9 (.od,bP a),Z9 (.od,.list (b.map pk)),Z9 (.od,.list (L.map rdD)),Z9 (f,.list ((y::l).map rdD)),Z9 (m,.list ((n::p).map rdD))] (rdD y):=iM (z02 rfl) z08.e (pM rdD (by simp));have C:Ev [] [hF 3] (.ix (.var 4) (.int 0)) [Z9 (.od,bP a),Z9 (.od,.list (b.map pk)),Z9 (.od,.list (L.map rdD)),Z9 (f,.list ((y::l).map rdD)),Z9 (m,.list ((n::p).map rdD))] (rdD n):=iM (z02 rfl) z08.e (pM rdD (by simp));exact TJ (z00 fM.e (z00 (Wa (z00 B (z00 C z09))) z09)));rw[A,en];refine⟨g,bO (c rfl) rfl (bO (c rfl) rfl (z07 e))⟩
def Bm:cQ->Str
 |.op _=>"open"
 |.wd _ _=>"word"
 |.id k _=>k
theorem Wg (r:cQ):ixD (dJ r) (.int 0)=.ok (.str (Bm r)):=by
 cases r with
 |op o=>rfl
 |wd n s=>rfl
 |id k r=>exact zw _ _
def nO (c:Str×Ak):D:=.tuple [.str "claim",.str c.1,bP c.2]
theorem Wh (c:Str×Ak):aM (nO c)=true:=by show(Z7&&(Z7&&(aM (bP c.2)&&Z7)))=Z7;rw[nM];rfl
structure ToA (K:Z5)(H:Hp)(rows:List cQ)(es:bA)(bk:Str->List Ru)(hd:List P)(fa:P->P)(cls:List (Str×Ak))(turn:Int)(va vb vt vf vh:V):Prop where
 rg:RgA K H rows es bk hd fa va vb vh
 rt:Rep K H AnyB vt (.list ((hd.map fa).map pk))
 rf:Rep K H AnyB vf (.list ((run5 bk (hd.map fa) rows).map rdD))
 im:∀r∈rows,aM (dJ r)=Z7
 cl:(rows.filter λr=>decide (Bm r="claim")).map dJ=cls.map nO
 n4:cls.length=4
 ca:∀c∈cls,zi [.list (rows.map dJ),.str c.1]=.ok (.fr,bP c.2)/\Z2 c.1=Z7/\da c.2<=3/\sk c.2
 sm:∀x∈run5 bk (hd.map fa) rows,mV x
 tn:0<=turn
def spTo (K:Z5):Sp:=λvs H Q _=>∃rows es bk hd fa cls turn va vb vt vf vh,vs=[va,vb,vt,vf,.int turn,vh]/\ToA K H rows es bk hd fa cls turn va vb vt vf vh/\∀H',Same H H'->Q (.bl Z7) H'
abbrev Φt:List Fn:=[Fz]
theorem MH (f:List (List Str)->Bool)(L:List bC):aG 40 (lF f L)=true:=by show(Z7&&(dM 38 ((iN f L).map rdD)&&Z7))=Z7;rw[iC.mpr λy hy=>by obtain⟨x,_,rfl⟩:=au.mp hy;exact Gg 31 x];rfl
theorem MI:(∀x∈iN f L,x∈L)/\(iN f L).length<=2:=by
 unfold iN;split
 .exact⟨nofun,be _⟩
 split
 .exact⟨nofun,be _⟩
 refine⟨λx hx=>?_,?_⟩
 .rcases cr.mp hx with hx|hx
  .exact(fh.mp (mj hx)).1
  .exact(fh.mp (mj hx)).1
 .rw[cg,db,db];omega
theorem Wi (h:∀x∈L,UB 300000 (rdD x)):UB 2000000 (lF f L):=by
 obtain⟨b,d⟩:=MI;have hl:UB 700000 (.list ((iN f L).map rdD)):=(Bj λy c=>by obtain⟨x,hx,rfl⟩:=au.mp c;exact h x (b x hx)).mono (by rw[ae];omega);refine(tW λz a=>?_).mono (by show 3+2*700002<=2000000;omega);rcases ao.mp a with rfl|a
 .refine(zE ?_).mono (by omega);unfold mT;split
  .decide
  split<;>decide
 .rw[ak.mp a];exact hl
theorem bF.same {K:Z5}(h:bF K H a b)(s:Same H c):bF K c a b:=by
 rcases h with(h|⟨o,h⟩)|h
 .exact .inl (.inl (s _ _ h))
 .exact .inl (.inr ⟨o,s _ _ h⟩)
 .exact .inr h
theorem Wj (f:List (List Str)->Bool)(L:List bC):Z2 (mT f L)=true:=by
 unfold mT;split
 .decide+kernel
 .split<;>decide+kernel
theorem MJ {K:Z5}{k:Nat}(h:bF K H t xs)(e:xs[k]?=Z9 v)(q:Q v H):rK K (.ref t) (.int k) H Q:=.inr (.inl ⟨t,xs,k,v,rfl,rfl,h,by unfold L2.cT L2.iB;have:k<xs.length:=(br.mp e).1;rw[xh (by omega),xh (by omega)];rw[ju];exact e,q⟩)
theorem AL (h:aG 40 d=Z7):cmpD .NotEq d d=.ok false:=by
 have e2:(if(aG 40 d&&aG 40 d)=Z7 then Res.ok (cc d d)else .no)=.ok true:=eq_self h;have e3:(if(aG 40 d&&aG 40 d)=Z7 then Res.ok (!cc d d)else .no)=Res.ok false:=by rw[h]at e2 ⊢;rw[Res.ok.inj e2];rfl
 exact e3
theorem MK (q:wE Z e a H λx b=>AG Z.K [x] b Q):wE Z (.rp e) a H Q:=q
section
variable {Z:Wc}{H:Hp}{D0:Ends}{rows:List cQ}{es:bA}{bk:Str->List Ru}{hd:List P}{fa:P->P}{cls:List (Str×Ak)}{turn:Int}{va vb vt vf vh:V}
theorem zp7 (l:Z.Κ=[])(o:Z.Φ=Φt)(f0:Z.fn[0]?=Z9 (spSe Z.K))(a:ToA Z.K H rows es bk hd fa cls turn va vb vt vf vh)(q:∀C,Same H C->D0.rt (.bl Z7) C):
  wS Z L65.to D0 [Z9 va,Z9 vb,Z9 vt,Z9 vf,Z9 (.int turn),Z9 vh,Z8,Z8,Z8,Z8,Z8] H:=by
 let L:=run5 bk (hd.map fa) rows
 have P:∀t∈hd.map fa,PK t:=λt ht=>by obtain⟨t',zB,rfl⟩:=au.mp ht;exact(a.rg.hf t' zB).2
 have L9:(hd.map fa).length<=4:=by rw[ae];exact a.rg.hl
 have bd:=Be (bk:=bk) L9 rows [([],(hd.map fa).map λ_=>[])] 0 0 (af 1) λx hx=>by rw[ak.mp hx];exact⟨ae ..,be _,λw hw=>by obtain⟨_,_,rfl⟩:=au.mp hw;exact be _⟩
 have two:=a.rg.ok.two;have tw:=a.rg.ok.tw;have Wk:=λx hx=>by have b:=bd.2 x hx;exact V7 (a.sm x hx) (a8 b.m (by omega)) (by have:=b.n;omega) λw hw=>a8 (b.c w hw) (by omega)
 refine bN (bX l o (ρ:=[Z9 (.od,.list (rows.map dJ)),Z8,Z8,Z8,Z8,Z8,Z8,Z8,Z8,Z8,Z8]) (.da a.rg.ra (zr _)) (d:=.list (cls.map nO)) ?_ λv6 H1 R r6=>?_)
 .rw[<-a.cl];have:=z24 (Φ:=Φt) (ρ:=[Z9 (.od,.list (rows.map dJ)),Z8,Z8,Z8,Z8,Z8,Z8,Z8,Z8,Z8,Z8]) (nt:=1) (js:=[]) (N':=["_law_row"]) (tg:=.nm 0) (it:=.tv (.var 0)) (cond:=.tv (.cmp .Eq (.ix (.var 0) (.int 0)) (.str "claim"))) (elt:=.var 0) (λr=>decide (Bm r="claim")) dJ (bI rfl rfl) rfl (λr=>[Z9 (.al,dJ r)]) (λr hr=>tL (a.im r hr)) (λr _=>FW (v_ix (z02 rfl) z08.e (Wg r) rfl).e) λr hr _=>v_var rfl (a.im r hr);exact Ev.of this
 have E:∀{Q:Rho},Q[6]?=Z9 (Z9 (.od,.list (cls.map nO)))->Vv [] Φt (.bi "len" (.cons (.var 6) .nil)) Q (.int 4):=λ{Q} e=>iJ (z00 (z02 e) z09) (by show Res.ok (ZZ ((cls.map nO).length:Nat))=_;rw[ae,a.n4];rfl) rfl;have sl:∀{C:Hp} {F G I u:Option V} {r7 r8 r9 A:Option GD},Same H1 C->Sl Z.K C [F,G,I,u] [r7,r8,r9,A]->Sl Z.K C [Z9 va,Z9 vb,Z9 vt,Z9 vf,Z9 (.int turn),Z9 vh,Z9 v6,F,G,I,u] [Z9 (.od,.list (rows.map dJ)),Z8,Z9 (.od,.list ((hd.map fa).map pk)),Z9 (.od,.list (L.map rdD)),Z9 (.od,.int turn),Z8,Z9 (.od,.list (cls.map nO)),r7,r8,r9,A]:=λ{C F G I u r7 r8 r9 A} s t=>.da (a.rg.ra.same (R.trans s) λ_ z=>z) (.no (.da (a.rt.same (R.trans s) λ_ z=>z) (.da (a.rf.same (R.trans s) λ_ z=>z) (.fP (.no (.da (r6.same s λ_ z=>z) t))))));refine bE (z89 l o (sl (Same.refl H1) (.no (.no (.no (.no .nil))))) (E3 (z00 (dC z08.e (E rfl).e rfl rfl).e z09) rfl) (λk J C=>Same H1 C/\∃F G I u,J=[Z9 va,Z9 vb,Z9 vt,Z9 vf,Z9 (.int turn),Z9 vh,Z9 v6,F,G,I,u]) (λH2 O=>⟨O,Z8,Z8,Z8,Z8,rfl⟩) ?_ ?_)
 .rintro k y dd J C H2 D2 hk ⟨sH,F,G,I,u,rfl⟩ O ry mS nx
  rw[ba]at hk;obtain⟨i,hi,rfl⟩:=bu.mp hk;refine tQ ry (by simp) λw gG=>?_;obtain rfl:w=.int i:=gG;have S:=sH.trans O;obtain⟨j,ej⟩:=qc (i6 (turn+i) (show 4≠0 by decide));have hj:j<cls.length:=by rw[a.n4];omega
  have mc:=dq hj;obtain⟨c1,c2,c3,c4⟩:=a.ca _ mc;have e8:Vv [] Φt (.ix (.var 6) (.bin .Mod (.bin .Add (.var 4) (.var 7)) (.bi "len" (.cons (.var 6) .nil)))) [Z9 (.od,.list (rows.map dJ)),Z8,Z9 (.od,.list ((hd.map fa).map pk)),Z9 (.od,.list (L.map rdD)),Z9 (.od,.int turn),Z8,Z9 (.od,.list (cls.map nO)),Z9 (.od,.int i),Z8,Z8,Z8] (nO cls[j]):=v_ix (z02 rfl) (dC (d:=.int ((turn+i)%4)) (dC (z02 rfl) (z02 rfl) rfl rfl).e (E rfl).e (kZ (by decide)) rfl).e (ej▸pM nO hj) (Wh _);generalize cls[j]=c at mc c1 c2 c3 c4 e8;refine bN (bX l o (sl S (.fP (.no (.no (.no .nil))))) e8.e λv8 H3 s3 r8=>?_);have T:=S.trans s3;refine bN (dZ f0 (aH (aL rfl (aH (aL rfl (aH (aL rfl (aH (bX l o (sl T (.no (.da r8 (.no (.no .nil))))) (v_ix (z02 rfl) z08.e rfl rfl).e λvc H4 s4 rc=>bD ?_)))))))));obtain⟨rfl,_⟩:=rc;have M:=T.trans s4;have N:=R.trans M;refine⟨rows,es,bk,hd,fa,c.1,bP c.2,eI (hd.map fa) c.2,va,vb,vh,rfl,⟨⟨a.rg.ok,a.rg.ra.same N λ_ z=>z,a.rg.rb.same N λ_ z=>z,a.rg.rt.same N λ_ z=>z,a.rg.hf,a.rg.hu,a.rg.hl⟩,c1,c2,λhs h _=>Wb P (by omega) (by rw[h,ae]) c3 c4⟩,λH5 t p ws s5 et np ep rp=>?_⟩;have r9:Rep Z.K H5 AnyB (.ref t) (lF (eI (hd.map fa) c.2) L):=⟨t,_,rfl,bF.of et,.str _,[.ref p],rfl,⟨rfl,Wj _ _⟩,.ref p,[],rfl,⟨p,ws,rfl,.inl ⟨ep,trivial⟩,rp.weak λ_ _=>trivial⟩,rfl⟩;have U:=M.trans s5;obtain⟨g,ed⟩:=Wf P (by omega) c3 c4 λx hx=>(bd.2 x hx).n;refine bN (bX l o (sl U (.no (.da (r8.same (s4.trans s5) λ_ z=>z) (.no (.no .nil))))) (d:=lF (eI (hd.map fa) c.2) L) (fN (z00 (v_ix (z02 rfl) z08.e rfl (nM _)).e (z00 (z02 rfl) (z00 (z02 rfl) z09))) rfl ed) λv10 H6 s6 A=>?_);obtain⟨Wl,_,rfl,_⟩:=id A;have W:=r9.same s6 λ_ z=>z;have ub:=Wi (f:=eI (hd.map fa) c.2) Wk;have X:aG 40 (lF (eI (hd.map fa) c.2) L)=Z7/\(lF (eI (hd.map fa) c.2) L).showable=Z7/\(lF (eI (hd.map fa) c.2) L).shown.length<=bb:=⟨MH _ _,ub.2.1,a8 ub.1 (by rw[bt];decide)⟩;refine bE (eW (Bh (hJ l o (sl (U.trans s6) (.no (.no (.da W (.da A .nil))))) (aU (z0m (z02 rfl) (z02 rfl) (AL (MH _ _))).e rfl) λH7 s7=>?_)));refine yV (MK (aL rfl ⟨t,_,AnyB,rfl,W.same s7 λ_ z=>z,X,MK (aL rfl ⟨Wl,_,AnyB,rfl,A.same s7 λ_ z=>z,X,yT (B:=AnyB) (B':=AnyB) (dx:=.str (lF (eI (hd.map fa) c.2) L).shown) (dy:=.str (lF (eI (hd.map fa) c.2) L).shown) ⟨rfl,ub.2.2⟩ ⟨rfl,ub.2.2⟩ (AL rfl) λH8 s8=>⟨Z6,rfl,bR Z ?_⟩⟩)⟩));have D:=s6.trans (s7.trans s8);refine bE (qS (yU (aL rfl (fO λH9 s9=>MJ (bF.of (s9 _ _ (D _ _ et))) rfl ⟨.inl ⟨rfl,_,SqL.of (s9 _ _ (D _ _ ep))⟩,fO λBi Y=>⟨p,ws,.int 1,rfl,rfl,Y _ _ (s9 _ _ (D _ _ ep)),?_,bR Z ?_⟩⟩))))
  .have :=rp.length;rw[ae]at this;have:=(MI (f:=eI (hd.map fa) c.2) (L:=run5 bk (hd.map fa) rows)).2;rw[bt];omega
  have up:∀{Ha:Hp},Same Ha H4->Same Ha (upd Bi p (.lst (ws++[.int 1]))):=λ{Ha} sa b ob e=>by have e4:=sa b ob e;rw[aA λz=>by rw[z,np]at e4;cases e4];exact Y _ _ (s9 _ _ (D _ _ (s5 _ _ e4)))
  exact nx _ _ ⟨up M,_,_,_,_,rfl⟩ (up (O.trans (s3.trans s4)))
 .rintro J C ⟨sH,F,G,I,u,rfl⟩
  refine fQ (bX l o (zr _) eV.e λv H2 O r2=>?_);obtain rfl:v=.bl true:=r2;exact q H2 (R.trans (sH.trans O))
end
section
variable {Z:Wc}{Φ:List Fn}{D0:Ends}{σ:L2.St}{ρ:Rho}{H:Hp}{t:Tg}{it:C}{b:WS}{g:G}{ds:List D}
theorem zh7 (hκ:Z.Κ=[])(hφ:Z.Φ=Φ)(sl:Sb Z.K H B0 σ ρ)(ev:evW [] Φ it ρ=.ok (g,ds))(M:Hp->Hp->Prop)(m0:∀H1,M H1 H1)(m2:∀H1 H2 H3,M H1 H2->M H2 H3->M H1 H3)(ms:∀H1 H2,Same H1 H2->M H1 H2)
  (mk:∀H1 H2,Same H H1->M H1 H2->∀b o,H1 b=Z9 o->(BG (FB H B0) H g (Z9 b)/\¬nw H1 (Z9 b)\/Fix o)->H2 b=Z9 o) (I:Nat->L2.St->Hp->Prop) (i0:∀H1,Same H H1->I 0 σ H1)
  (one:∀k y d σ' H' H2 D2,ds[k]?=Z9 d->I k σ' H'->Same H' H2->Rep Z.K H2 AnyB y d->D2.rt=D0.rt->(∀cB H3,I (k+1) cB H3->M H' H3->D2.nx cB H3)->tDG Z.K t y σ' H2 (wS Z b D2))
  (q:∀σ' H',I ds.length σ' H'->D0.nx σ' H'):wS Z (.aV t it b) D0 σ H:=by
 refine⟨ρ,FB H B0,(g,ds),sl.so,by rw[hκ,hφ];exact ev,λJ B H1 s1 hB wk=>?_⟩;have kp:∀H',M H1 H'->Kp B H1 H':=λH' m b o e z=>mk H1 H' s1 m b o e (z.imp (λz=>hB _ z) id);refine⟨λk n σ' H'=>n=ds.length-k/\k<=ds.length/\M H1 H'/\I k σ' H',⟨_,rfl,be _,m0 _,i0 H1 s1⟩,?_⟩
 rintro k n σ' H' ⟨rfl,hk,m',i'⟩
 by_cases vS:k<ds.length
 .refine .inr ⟨wk.go H' (kp _ m') k vS,λnX H2=>k+1<=ds.length/\M H1 H2/\I (k+1) nX H2,λnX H2 w=>⟨ds.length-(k+1),by omega,rfl,w⟩,λy H2 hy=>?_⟩;obtain⟨s2,d,e,r⟩:=wk.fJ H' (kp _ m') k y H2 vS hy;exact one k y d σ' H' H2 _ e i' s2 (r.weak λ_ _=>trivial) rfl λcB H3 i3 m3=>⟨vS,m2 _ _ _ m' m3,i3⟩
 .have xY:k=ds.length:=by omega
  subst xY;exact .inl ⟨wk.stop H' (kp _ m'),q σ' H' i'⟩
theorem z93 (hκ:Z.Κ=[])(hφ:Z.Φ=Φ)(sl:Sb Z.K H B0 σ ρ)(ev:evW [] Φ it ρ=.ok (g,ds))(T:Addr->Prop)(hT:∀b,T b->(∃o,H b=Z9 o/\¬Fix o)/\¬B0 (Z9 b))(I:Nat->L2.St->Hp->Prop)(i0:∀H1,Same H H1->I 0 σ H1)
  (one:∀k y d σ' H' H2 D2,ds[k]?=Z9 d->I k σ' H'->Same H' H2->Rep Z.K H2 AnyB y d->D2.rt=D0.rt->(∀cB H3,I (k+1) cB H3->(∀b o,¬T b->H' b=Z9 o->H3 b=Z9 o)->D2.nx cB H3)->tDG Z.K t y σ' H2 (wS Z b D2))
  (q:∀σ' H',I ds.length σ' H'->D0.nx σ' H'):wS Z (.aV t it b) D0 σ H:=
 zh7 hκ hφ sl ev (λH1 H2=>∀b o,¬T b->H1 b=Z9 o->H2 b=Z9 o) (λ_ _ _ _ e=>e) (λ_ _ _ m1 m2 b o n e=>m2 b o n (m1 b o n e)) (λ_ _ s b o _ e=>s b o e) (λH1 H2 s m b o e z=>m b o (λw=>by
  obtain⟨⟨o',e',nf⟩,nB⟩:=hT b w;have e1:=s b o' e';rw[e]at e1;cases e1;rcases z with z|z
  .rcases zv _ _ z.1 with z1|z1
   .have :H b=none:=z1;rw[this]at e';cases e'
   .exact nB z1
  .exact nf z) e) I i0 one q
end
def mW (s:Int):P:=((if s%2=1 then[(("other":Str),(1:Int))]else[])++((if s/2%2=1 then[(("wlate":Str),(2:Int))]else[])++(if s/4%2=1 then[(("wopen":Str),(5:Int))]else[]:P):P):P)
theorem Wm (h0:0<=s)(a:s<8):aE [] Φ (.bin .Add (.bin .Add (L65.vQ "other" 1 (.var 4)) (L65.vQ "wlate" 2 (.bin .FloorDiv (.var 4) (.int 2)))) (L65.vQ "wopen" 5 (.bin .FloorDiv (.var 4) (.int 4)))) [b,c,d,e,Z9 (.od,.int s),f]=.ok (.fr,.list ((mW s).map pr)):=by
 have:s=0\/s=1\/s=2\/s=3\/s=4\/s=5\/s=6\/s=7:=by omega
 rcases this with rfl|rfl|rfl|rfl|rfl|rfl|rfl|rfl<;>rfl
theorem Wn (a b:P)(h:a.length+b.length<=100):cE .Add (pk a) (pk b)=.ok (pk (a++b)):=by show(if(a.map pr).length+(b.map pr).length<=aQ then Res.ok (PyData.tuple (a.map pr++b.map pr))else .no)=_;rw[xh (by rw[ae,ae];unfold aQ;omega),<-bv];rfl
def tY (q:P×Int):P:=q.1++mW q.2
theorem Wo (s:Int):(mW s).length<=3:=by unfold mW;split<;>split<;>split<;>simp
section
variable {Z:Wc}{H:Hp}{D0:Ends}{ths:List P}{p:Addr}{a m:Int}{vt:V}
def spDd (K:Z5):Sp:=λvs H Q _=>∃(ths:List P) (p:Addr) (a m:Int) (vt:V),vs=[vt,.ref p]/\Dw H p a m/\Rep K H (neB [p]) vt (.list (ths.map pk))/\ths.length<=4/\(∀t∈ths,t.length<=3)/\∀(H':Hp) (l:Addr) (ws:List V) (ss:List Int),H l=Z8->Ch p H H'->H' l=Z9 (.lst ws)->ss.length=ths.length->Reps K H' NoB ws ((ths.zip ss).map λq=>pk (tY q))->Q (.ref l) H'
theorem zo6 (n:Z.Κ=[])(s:Z.Φ=[])(f0:Z.fn[0]?=Z9 (spDr Z.K))(d:Dw H p a m)(rt:Rep Z.K H (neB [p]) vt (.list (ths.map pk)))(hl:ths.length<=4)(h3:∀t∈ths,t.length<=3)
  (q:∀f l ws g,H l=Z8->Ch p H f->f l=Z9 (.lst ws)->g.length=ths.length->Reps Z.K f NoB ws ((ths.zip g).map λq=>pk (tY q))->D0.rt (.ref l) f):
  wS Z L65.dd D0 [Z9 vt,Z9 (.ref p),Z8,Z8,Z8,Z8] H:=by
 refine bN (fH (bD ⟨be _,λc h=>?_⟩));have W:c≠p:=λz=>by rw[z,show H p=_ from d]at h;cases h
 have B:Same H (upd H c (.lst [])):=Same.upd h;have J:upd H c (.lst []) c=Z9 (.lst []):=aO
 have C:=(((Rep.there _ rt).weak (B':=neB [p,c]) λx z=>by
  cases x with
  |none=>exact trivial
  |some x=>
   intro w;rcases ao.mp w with rfl|w
   .exact z.1 (.head _)
   .rw[ak.mp w]at z;exact z.2 h)).same B λ_ z=>z
 generalize upd H c (.lst [])=H0 at B J C ⊢;refine bE (z93 n s (ρ:=[Z9 (.al,.list (ths.map pk)),Z8,Z8,Z8,Z8,Z8]) (.da C (.no (.no (.no (.no (.no .nil)))))) (bI rfl rfl) (λb=>b=p\/b=c) (λb hb=>?_) (λk u f=>∃G ws g L M N,(∀b o,b≠p->b≠c->H0 b=Z9 o->f b=Z9 o)/\Dw f p G m/\f c=Z9 (.lst ws)/\g.length=(ths.take k).length/\Reps Z.K f NoB ws (((ths.take k).zip g).map λq=>pk (tY q))/\u=[Z9 vt,Z9 (.ref p),Z9 (.ref c),L,M,N]) (λH1 O=>⟨a,[],[],Z8,Z8,Z8,λb o _ _ e=>O _ _ e,O _ _ (B _ _ d),O _ _ J,rfl,rfl,rfl⟩) ?_ ?_)
 .rcases hb with rfl|rfl
  .exact⟨⟨_,B _ _ d,λz=>z⟩,λz=>z (.head _)⟩
  .exact⟨⟨_,J,λz=>z⟩,λz=>z (.tail _ (.head _))⟩
 .rintro k y dd u f H2 D2 hk ⟨G,ws,g,L,M,N,kp,X,P,ls,i,rfl⟩ D ry mS nx
  rw[ba]at hk;obtain⟨th,ht,rfl⟩:=bu.mp hk;have Y:ths.take (k+1)=ths.take k++[th]:=by rw[fu,ht];rfl
  refine tQ ry (by simp) λw Q=>?_;have R:=D _ _ X;refine bN (dZ f0 (aH (aL rfl (aH (fO λH3 s3=>bD ⟨p,G,m,8,rfl,s3 _ _ R,by decide,by decide,λH4 r a4 k1 k2 c4 d4=>?_⟩)))));have E:=(Ch.of s3).trans c4;have S:Rep Z.K H4 NoB w (pk th):=E.aM R (cA _) Q;refine bN (bX n s (.no (.no (.no (.no (.fP (.no .nil)))))) (d:=.list ((mW r).map pr)) (Ev.of (Wm k1 k2)) λv5 H5 T r5=>?_);have j:=E.trans (.of T);have U:=j _ _ W (D _ _ P);have F:=Reps.keep (λx ob e z=>j.fix R x ob e (z.elim (λz=>z.elim) _root_.id)) (λ_ z=>z) _ (i.same D λ_ z=>z);have Yr:=h3 th (bn ht);have Ys:=Wo r;refine bE (qS (aL rfl ⟨.inl ⟨rfl,_,SqL.of U⟩,bX n s (ρ:=[Z8,Z8,Z8,Z9 (.od,pk th),Z8,Z9 (.od,.list ((mW r).map pr))]) (.no (.no (.no (.da (S.same T λ_ z=>z) (.no (.da r5 .nil)))))) (d:=pk (tY (th,r))) (dC (z02 rfl) (sW (w:=(Z7,(mW r).map pr)) (z02 rfl) rfl (ER _ _) (cA (mW r))).e (Wn th (mW r) (by omega)) (cA _)).e λv V A r6=>⟨c,ws,v,rfl,rfl,A _ _ U,?_,bR Z ?_⟩⟩))
  .have I:=F.length;rw[ae,j9,db]at I;rw[bt];omega
  have ne:∀x,x≠c->upd V c (.lst (ws++[v])) x=V x:=λx hx=>aA hx;refine nx _ _ ⟨a4,ws++[v],g++[r],_,_,_,λb o I h e=>?_,?_,aO,?_,?_,rfl⟩ λb o hT e=>?_
  .rw[ne b h];exact A _ _ (j _ _ I (D _ _ (kp b o I h e)))
  .show upd V c _ p=_;rw[ne p (Ne.symm W)];exact A _ _ (T _ _ d4)
  .rw[Y,cg,cg,ls];rfl
  .rw[Y,Uo ls,bv];exact Reps.mP (A _ _ U) ((F.same A λ_ z=>z).append (Reps.cons (Rep.aT _ (cA _) r6) rfl))
  .rw[ne b λz=>hT (.inr z)];exact A _ _ (j _ _ (λz=>hT (.inl z)) (D _ _ e))
 .rintro u f ⟨G,ws,g,L,M,N,kp,X,P,ls,i,rfl⟩
  rw[ae,gg]at ls i;refine fQ (aL rfl (q f c ws g h (λb o hb e=>kp b o hb (λz=>by rw[z,h]at e;cases e) (B _ _ e)) P ls i))
end
section
variable {Z:Wc}{D0:Ends}{σ:L2.St}{H:Hp}{t i:Nat}{tg:Tg}{b:WS}{d:Addr}{kvs:List (Key×V)}
theorem zkf (I:Obj->Nat->L2.St->Hp->Prop)(h:σ[i]?=Z9 (Z9 (.ref d)))(r:H d=Z9 (.dK kvs))(s:∀o,I o 0 σ (upd H d (.frz o (.dK kvs))))(fz:∀o k a c,I o k a c->c d=Z9 (.frz o (.dK kvs)))
  (one:∀o k key v a c,kvs[k]?=Z9 (key,v)->I o k a c->∀p,(∀cB j,I o (k+1) cB j->p.nx cB j)->wS Z b p (a.set t (Z9 (kV key))) c) (q:∀o a c,I o kvs.length a c->D0.nx a (upd c d (.dK kvs))):wS Z (.fork t i b) D0 σ H:=by
 refine⟨d,kvs,h,r,λo=>⟨λk n a c=>n=kvs.length-k/\k<=kvs.length/\I o k a c,⟨_,rfl,be _,s o⟩,?_⟩⟩
 rintro k n a c ⟨rfl,hk,e⟩
 by_cases f:k<kvs.length
 .refine .inr ⟨⟨fz _ _ _ _ e,f⟩,λg l=>k+1<=kvs.length/\I o (k+1) g l,λg l w=>⟨kvs.length-(k+1),by omega,rfl,w⟩,λy l u=>?_⟩;obtain⟨key,v,m,rfl,rfl⟩:=u;exact one o k key v a _ m e _ λcB j w=>⟨f,w⟩
 .have :k=kvs.length:=by omega
  subst this;exact .inl ⟨⟨fz _ _ _ _ e,af _⟩,fz _ _ _ _ e,q o a c e⟩
theorem zlk (I:Obj->Nat->L2.St->Hp->Prop)(h:σ[i]?=Z9 (Z9 (.ref d)))(s:H d=Z9 (.dK kvs))(t:∀o,I o 0 σ (upd H d (.frz o (.dK kvs))))(fz:∀o k a c,I o k a c->c d=Z9 (.frz o (.dK kvs)))
  (one:∀o k key v a c p,kvs[k]?=Z9 (key,v)->I o k a c->c p=Z8->∀r,(∀cB j,I o (k+1) cB j->r.nx cB j)->tDG Z.K tg (.ref p) a (upd c p (.tup [kV key,v])) (wS Z b r)) (q:∀o a c,I o kvs.length a c->D0.nx a (upd c d (.dK kvs))):wS Z (.jZ tg i b) D0 σ H:=by
 refine⟨d,kvs,h,s,λo=>⟨λk n a c=>n=kvs.length-k/\k<=kvs.length/\I o k a c,⟨_,rfl,be _,t o⟩,?_⟩⟩
 rintro k n a c ⟨rfl,hk,e⟩
 by_cases f:k<kvs.length
 .refine .inr ⟨⟨fz _ _ _ _ e,f⟩,λg l=>k+1<=kvs.length/\I o (k+1) g l,λg l w=>⟨kvs.length-(k+1),by omega,rfl,w⟩,λy l u=>?_⟩;obtain⟨p,key,v,m,x,rfl,rfl⟩:=u;exact one o k key v a c p m e x _ λcB j w=>⟨f,w⟩
 .have :k=kvs.length:=by omega
  subst this;exact .inl ⟨⟨fz _ _ _ _ e,af _⟩,fz _ _ _ _ e,q o a c e⟩
end
theorem ML (h:sl a b):[a,b].Pairwise sl:=dj.mpr ⟨λy c=>by rw[ak.mp c];exact h,jf _ _⟩
theorem Gs (h:a∈NM)(e:∀b,aggD "sorted" b [.str a]=.ok (.list [.str a])):SO [a] [a] where
 nd:=ci.mpr ⟨nofun,jg⟩
 lf:=by show 1<=2;decide
 l2:=by show 1<=2;decide
 pw:=jf _ _
 mm:=λ_=>Iff.rfl
 ev:=e
 nm:=λn hn=>by rw[ak.mp hn];exact h
theorem MM (hn:a≠b)(h:sl c d)(hm:c∈NM/\d∈NM)(p:(c=a/\d=b)\/(c=b/\d=a))(e:∀k,aggD "sorted" k [.str a,.str b]=.ok (.list [.str c,.str d])):SO [a,b] [c,d] where
 nd:=ci.mpr ⟨(λz=>hn (ak.mp z)),ci.mpr ⟨nofun,jg⟩⟩
 lf:=af 2
 l2:=af 2
 pw:=ML h
 mm:=λn=>by
  rcases p with⟨rfl,rfl⟩|⟨rfl,rfl⟩
  .exact Iff.rfl
  .simp;exact Or.comm
 ev:=e
 nm:=λn hn=>by
  rcases ao.mp hn with rfl|hn
  .exact hm.1
  .rw[ak.mp hn];exact hm.2
def o1:Op where
 n:="wopen"
 fs:=["fb","fa"]
 gs:=["fc"]
 sf:=["fa","fb"]
 sg:=["fc"]
 of:=MM (by decide) (show _<_ by decide) (by decide) (.inr ⟨rfl,rfl⟩) (λk=>by cases k<;>rfl)
 og:=Gs (by decide) (λk=>by cases k<;>rfl)
 so:=by decide+kernel
def o2 (z:Bool):Op where
 n:="wrude"
 fs:=if z then["wlate","fc"]else["fb"]
 gs:=["wopen"]
 sf:=if z then["fc","wlate"]else["fb"]
 sg:=["wopen"]
 of:=by
  cases z
  .exact Gs (by decide) (λk=>by cases k<;>rfl)
  .exact MM (by decide) (show _<_ by decide) (by decide) (.inr ⟨rfl,rfl⟩) (λk=>by cases k<;>rfl)
 og:=Gs (by decide) (λk=>by cases k<;>rfl)
 so:=by decide+kernel
def Wq (y:Bool):Sg:=.an (.is "wopen") (.at "fa" (if y then 2 else 1))
def Gu:Sg:=.or (.is "wrude") (.no (.is "wlate"))
def MN:Ak:=.so (.is "wsum")
def MO:Ak:=.al (.or (.is "wopen") (.at "fc" 2))
def nQ:List (Str×Ak):=[("ca",MN),("cb",MO),("cc",.an (.no MO) (.so (.is "wrude"))),("cd",.or (.no MN) (.al (.no (.is "wopen"))))]
def rwsO (y z:Bool):List cQ:=[.id "fact" [.str "fa"],.id "fact" [.str "fb"],.id "fact" [.str "fc"],.op o1,.wd "wlate" (Wq y),.op (o2 z),.wd "wsum" Gu]++nQ.map λc=>.id "claim" [.str c.1,bP c.2]
def rwsD (y z:Bool):D:=.list ((rwsO y z).map dJ)
theorem Wr (h0:0<=r)(a:r<4):∃y z g,zfm [.int r]=.ok (g,rwsD y z):=by
 have:r=0\/r=1\/r=2\/r=3:=by omega
 rcases this with rfl|rfl|rfl|rfl
 .exact⟨Z6,Z7,_,rfl⟩
 .exact⟨Z7,Z7,_,rfl⟩
 .exact⟨Z6,Z6,_,rfl⟩
 .exact⟨Z7,Z6,_,rfl⟩
theorem Ws (y z:Bool):∀c∈nQ,zi [rwsD y z,.str c.1]=.ok (.fr,bP c.2)/\Z2 c.1=Z7/\da c.2<=3/\sk c.2:=by
 intro c a;simp only[nQ,ao,fm,or_false]at a;rcases a with rfl|rfl|rfl|rfl
 .exact⟨by cases y<;>cases z<;>rfl,by decide+kernel,by decide,by show 1<=3;decide⟩
 .exact⟨by cases y<;>cases z<;>rfl,by decide+kernel,by decide,by show 1+max 1 1<=3;decide⟩
 .exact⟨by cases y<;>cases z<;>rfl,by decide+kernel,by decide,⟨by show 1+max 1 1<=3;decide,by show 1<=3;decide⟩⟩
 .exact⟨by cases y<;>cases z<;>rfl,by decide+kernel,by decide,⟨by show 1<=3;decide,by show 1+1<=3;decide⟩⟩
theorem Wt (y z:Bool):((rwsO y z).filter λr=>decide (Bm r="claim")).map dJ=nQ.map nO:=by cases y<;>cases z<;>rfl
abbrev F3:List Str:=["fa","fb","fc"]
theorem Wu (s:Int):∀x∈mW s,x.1∉F3:=by
 intro x hx;rcases cr.mp hx with hx|hx
 .split at hx
  .rw[ak.mp hx];decide
  .cases hx
 rcases cr.mp hx with hx|hx
 .split at hx
  .rw[ak.mp hx];decide
  .cases hx
 .split at hx
  .rw[ak.mp hx];decide
  .cases hx
theorem Wv (h:∀p∈t,p.1∈F3):nK F3 (tY (t,s))=t:=by show((t++mW s).filter _)=t;rw[gu,gq.mpr λp a=>xp (h p a),l6.mpr λx hx=>by simpa using Wu s x hx,ce]
theorem Ww (y z:Bool)(t:P):tH [rwsD y z,pk t]=.ok (.fr,pk (nK F3 t)):=by exact dY (eG (qI (by cases y<;>cases z<;>rfl) (sU _)) (z07 (z0f (sW (w:=(Z7,(nK F3 t).map pr)) (Ev.of (UJ (Φ:=[]) (ρ:=[Z9 (.od,rwsD y z),Z9 (.od,pk t),Z9 (.fr,.list (F3.map .str))]) (it:=.tv (.var 1)) (j:=2) (bI (v_var rfl (cA _)).1 rfl) (.inl rfl) ["pair","facts"])) rfl rfl (cA _)))))
theorem Wx (y z:Bool)(n:Int):AO [rwsD y z,.int n]=.ok (.fr,.int (2*n)):=by
 refine dY ?_;have h1:aE [] [] (.comp 1 [] ["row"] (.nm 0) (.tv (.var 0)) (.tv (.cmp .Eq (.ix (.var 0) (.int 0)) (.str "open"))) (.var 0)) [Z9 (.od,rwsD y z),Z9 (.od,.int n)]=.ok (.fr,.list [opD o1,opD (o2 z)]):=by cases y<;>cases z<;>rfl
 exact z07 (z0f (dC (iJ (z00 (Ev.of h1) z09) rfl rfl).e (z02 rfl) (Tq (by decide)) rfl))
theorem MP (y z:Bool):∀r∈rwsO y z,aM (dJ r)=true:=by
 have:(rwsO y z).all (λr=>aM (dJ r))=true:=by cases y<;>cases z<;>rfl
 exact bg.mp this
theorem Wy (y z:Bool)(hb:∀n:Str,n="wopen"\/n="wrude"->(cU es (.str n)).getD (.list [])=.list ((bk n).map ruD)/\(bk n).length<=20):zx (rwsO y z) es bk where
 id:=λk r h=>by unfold rwsO nQ at h;simp only[aw,il,jh,km,ao,fm,or_false]at h;rcases h with h|h|h|h|h|h|h|h|h|h|h<;>cases h<;>decide
 op:=λo h=>by
  unfold rwsO nQ at h;simp only[aw,il,jh,km,ao,fm,or_false]at h;rcases h with h|h|h|h|h|h|h|h|h|h|h<;>cases h
  .exact hb _ (.inl rfl)
  .exact hb _ (.inr rfl)
 wd:=λn s h=>by
  unfold rwsO nQ at h;simp only[aw,il,jh,km,ao,fm,or_false]at h;rcases h with h|h|h|h|h|h|h|h|h|h|h<;>cases h
  .exact⟨by show 1+max 1 1<=3;decide,by decide+kernel⟩
  .exact⟨by decide,by decide+kernel⟩
 two:=by cases y<;>cases z<;>decide
 tw:=by cases y<;>cases z<;>decide
theorem MQ (y z:Bool):(∀o,cQ.op o∈rwsO y z->o.n∈SN)/\∀n s,cQ.wd n s∈rwsO y z->n∈SN:=by
 refine⟨λo h=>?_,λn s h=>?_⟩
 .unfold rwsO nQ at h;simp only[aw,il,jh,km,ao,fm,or_false]at h;rcases h with h|h|h|h|h|h|h|h|h|h|h<;>cases h
  .decide
  .show("wrude":Str)∈SN;decide
 .unfold rwsO nQ at h;simp only[aw,il,jh,km,ao,fm,or_false]at h;rcases h with h|h|h|h|h|h|h|h|h|h|h<;>cases h<;>decide
abbrev Bs:=List (Str×List Ru)
def bsD (bs:Bs):bA:=bs.map λe=>(.str e.1,.list (e.2.map ruD))
def cH (bs:Bs)(n:Str)(rs:List Ru):Bs:=if(bs.any λe=>decide (e.1=n))=Z7 then bs.map (λe=>if e.1=n then(e.1,rs)else e)else bs++[(n,rs)]
def getB (bs:Bs)(n:Str):List Ru:=((bs.find? λe=>decide (e.1=n)).map (·.2)).getD []
theorem Bn (n:Str):∀bs,((bsD bs).any λe=>eqK e.1 (.str n))=bs.any λe=>decide (e.1=n)
 | []=>rfl
 |e::bs=>by show(eqK (.str e.1) (.str n)||(bsD bs).any _)=_;rw[Bn n bs];rfl
theorem WA (bs:Bs)(n:Str)(rs:List Ru):dput (bsD bs) (.str n) (.list (rs.map ruD))=bsD (cH bs n rs):=by
 unfold dput cH;rw[Bn];split
 .unfold bsD;rw[dg,dg];refine i9 λe _=>?_;show(if eqK (.str e.1) (.str n)=Z7 then _ else _)=_;rw[vF];by_cases h:e.1=n
  .rw[xh (xp h)];show _=((λe:Str×List Ru=>((Z1 e.1,Z0 (e.2.map ruD)):D×D)) (if e.1=n then(e.1,rs)else e));rw[xh h]
  .rw[xk (by rw[xq h];decide)];show _=((λe:Str×List Ru=>((Z1 e.1,Z0 (e.2.map ruD)):D×D)) (if e.1=n then(e.1,rs)else e));rw[xk h]
 .unfold bsD;rw[bv];rfl
theorem vV (n:Str):∀bs,(cU (bsD bs) (.str n)).getD (.list [])=.list ((getB bs n).map ruD)
 | []=>rfl
 |e::bs=>by
  unfold cU getB at *
  rw[show bsD (e::bs)=(Z1 e.1,Z0 (e.2.map ruD))::bsD bs from rfl,dt,dt];rw[vF];by_cases h:e.1=n
  .rw[xp h];rfl
  .rw[xq h];exact vV n bs
theorem WB (bs:Bs)(n k:Str)(a:List Ru):getB (cH bs n a) k=if k=n then a else getB bs k:=by
 unfold cH;split
 .rename_i ha
  have d:∀bs,getB (bs.map λe=>if e.1=n then(e.1,a)else e) k=if k=n then(if(bs.any λe=>decide (e.1=n))=Z7 then a else[])else getB bs k:=by
   intro bs
   induction bs with
   |nil=>split<;>rfl
   |cons e bs b=>
    unfold getB at *
    rw[aw,dt,dt,jo];by_cases h:e.1=n
    .rw[xh h];by_cases hk:k=n
     .rw[xh hk,xp (h.trans hk.symm),xp h];rfl
     .rw[xq (λz=>hk (z.symm.trans h)),xk hk]at *
      exact b
    .rw[xk h,xq h];by_cases hk:k=n
     .rw[xh hk]at b ⊢;rw[xq (λz=>h (z.trans hk))];exact b
     .rw[xk hk]at b ⊢;by_cases c:e.1=k
      .rw[xp c]
      .rw[xq c];exact b
  rw[d,ha,xh rfl]
 .rename_i ha;unfold getB;rw[List.find?_append];by_cases hk:k=n
  .rw[xh hk,hk,oa.mpr fun e c=>by
    intro z;exact ha (gh.mpr ⟨e,c,z⟩)]
   rw[dt,xp rfl];rfl
  .rw[xk hk];have:List.find? (λe:Str×List Ru=>decide (e.1=k)) [(n,a)]=none:=by rw[dt,xq (λz=>hk z.symm)];rfl
   rw[this,Option.or_none]
def enB (bs:Bs)(l:List En):Bs:=l.foldl (λbs e=>cH bs e.1 (getB bs e.1++[e.2.2])) bs
theorem Gv:∀l bs n,getB (enB bs l) n=gro (getB bs) l n
 | [],bs,n=>(ce _).symm
 |e::l,bs,n=>by
  show getB (enB (cH bs e.1 (getB bs e.1++[e.2.2])) l) n=_;rw[Gv l];unfold gro;rw[WB];by_cases h:n=e.1
  .rw[xh h,gz (by simpa using h.symm),i7,h];rfl
  .rw[xk h,g6 (by simpa using λz=>h z.symm)]
theorem zo3 {K:Z5}(r:Rep K H B v (.tuple [a,b,c]))(s:i<d.length)(t:j<d.length)(hl:l<d.length)(y:i≠j)(A:i≠l)(C:j≠l)
  (q:∀u w z,Rep K H AnyB u a->Rep K H AnyB w b->Rep K H AnyB z c->Q (((d.set i (Z9 u)).set j (Z9 w)).set l (Z9 z)) H):tDG K (.tp [i,j,l]) v d H Q:=by
 have D:∀g e,z17 (g,e)=(.od,e)\/z17 (g,e)=(.al,e):=λg e=>by cases g<;>first|exact .inl rfl|exact .inr rfl
 refine⟨bc d.length Z8,F0 H,(.od,.tuple [a,b,c]),(((bc d.length Z8).set i (Z9 (z17 (gJ a .od,a)))).set j (Z9 (z17 (gJ b .od,b)))).set l (Z9 (z17 (gJ c .od,c))),yS (by rw[cq]) λj g I e=>?_,r.old,rfl,λf J so kp=>?_⟩
 .rw[du]at e;split at e<;>cases e
 .have sl:∀k e g,((((bc d.length Z8).set i (Z9 (z17 (gJ a .od,a)))).set j (Z9 (z17 (gJ b .od,b)))).set l (Z9 (z17 (gJ c .od,c))))[k]?=Z9 (Z9 (z17 (g,e)))->∃v,f[k]?=Z9 (Z9 v)/\Rep K H AnyB v e:=fun k e g h=>by
   rcases D g e with x|x
   all_goals rw[x]at h;obtain⟨v,m,n⟩:=so.sl k _ _ h;exact⟨v,m,n.weak λ_ _=>trivial⟩
  have hr:(bc d.length (Z8:Option GD)).length=d.length:=cq;obtain⟨u,m,n⟩:=sl i a _ (by rw[cj (Ne.symm A),cj (Ne.symm y),c9];rw[hr];exact s);obtain⟨w,E,F⟩:=sl j b _ (by rw[cj (Ne.symm C),c9];rw[cz,hr];exact t);obtain⟨z,G,r3⟩:=sl l c _ (by rw[c9];rw[cz,cz,hr];exact hl);rw[F7 (σ:=(d.set i (Z9 u)).set j (Z9 w)) (by rw[cz,cz];exact kp.len) G λk hk=>?_]
  .exact q u w z n F r3
  by_cases o:k=j
  .subst o;rw[E,c9 (by rw[cz];exact t)]
  rw[cj (Ne.symm o)];by_cases p:k=i
  .subst p;rw[m,c9 s]
  rw[cj (Ne.symm p)];exact kp.rest k (by simpa[tgIx]using⟨p,o,hk⟩)
section
variable {K:Z5}{H H':Hp}{bs:Bs}
theorem Gx {rs:List Ru}(hd:H d=Z9 (.dK kvs))(kp:∀a o,a≠d->H a=Z9 o->H' a=Z9 o)(r:Rep K H AnyB v (.list (rs.map ruD))):Rep K H' AnyB v (.list (rs.map ruD)):=by
 obtain⟨a,vs,rfl,h,r⟩:=r;refine⟨a,vs,rfl,?_,Reps.gP (λb o e f=>kp b o (λz=>by rw[z,hd]at e;cases e;exact f) e) _ (nJ hW _) r⟩;rcases h with⟨h,_⟩|⟨⟨o,h⟩|h,_⟩
 .exact .inl ⟨kp _ _ (λz=>by rw[z,hd]at h;cases h) h,trivial⟩
 .exact .inr ⟨.inl ⟨o,kp _ _ (λz=>by rw[z,hd]at h;cases h) h⟩,trivial⟩
 .exact .inr ⟨.inr h,trivial⟩
theorem Gy:∀{bs:Bs} {kvs:List (Key×V)} {k:Nat} {key:Key} {v:V},REs K H B kvs (bsD bs)->kvs[k]?=Z9 (key,v)->∃e,bs[k]?=Z9 e/\key=.inr e.1/\Z2 e.1=Z7/\Rep K H B v (.list (e.2.map ruD))
 | [],kvs,k,key,v,r,h=>by cases r;cases h
 |e::bs,kvs,k,key,v,r,h=>by
  obtain⟨k',v',t,rfl,e1,ok,rv,rt⟩:=r;cases k with
  |zero=>
   cases h;cases key with
   |inl i=>cases e1
   |inr x=>cases e1;exact⟨e,rfl,rfl,ok,rv⟩
  |succ k=>exact Gy (bs:=bs) rt h
theorem Bo:∀{bs:Bs} {a:List (Key×V)},REs K H B a (bsD bs)->a.length=bs.length
 | [],a,r=>by cases(show a=[]from r);rfl
 |e::bs,a,r=>by obtain⟨b,c,t,rfl,d,ok,rv,rt⟩:=r;exact congrArg (· +1) (Bo rt)
theorem MR (nd:(bs.map (·.1)).Nodup)(h:bs[k]?=Z9 e):cH (bs.take k) e.1 e.2=bs.take (k+1):=by
 unfold cH;rw[xk,fu,h]
 .rfl
 intro z;obtain⟨f,hf,b⟩:=gh.mp z;have a:((bs.take (k+1)).map (·.1)).Nodup:=nd.sublist ((jq _ _).map _);rw[fu,h,bv]at a;exact(l0.mp a).2.2 f.1 (au.mpr ⟨f,hf,rfl⟩) e.1 (au.mpr ⟨e,.head _,rfl⟩) (xn b)
theorem WC (nd:(bs.map (·.1)).Nodup)(h:e∈bs):getB bs e.1=e.2:=by
 induction bs with
 |nil=>cases h
 |cons f bs a=>
  rw[aw,ci]at nd;unfold getB;rcases ao.mp h with rfl|h
  .rw[lq (by simp)];rfl
  .rw[lr (by
    intro z;exact nd.1 ((by simpa using z)▸au.mpr ⟨_,h,rfl⟩))]
   exact a nd.2 h
end
def nwq (H:Hp)(q:Addr):Ad->Prop:=λa=>Mi.nw H a/\a≠Z9 q
section
variable {Z:Wc}{H H2:Hp}{σ:L2.St}{ρ:Rho}{D0:Ends}{q:Addr}{bs:Bs}{ks:List (Key×V)}
theorem REs.Gz {K:Z5}(r:REs K H2 (nwq H0 q) b es)(c:H2 q=Z9 (.dK ks)):REs K (upd H2 q (.dK d)) (nwq H0 q) b es:=REs.keep (λa o e z=>by
 rw[aA]
 .exact e
 .rintro rfl
  rcases z with z|z
  .exact z.2 rfl
  .rw[c]at e;cases e;exact z) (λ_ z=>z) _ r
theorem Bp (e:∀R:VK,R v H->wE Z a σ H R)(r:Rep Z.K H AnyB v (.list b))(im:imms b=Z7)(q:∀y c,Same H c->Rep Z.K c (Mi.nw H) y (.list b)->Q y c):wE Z (.mO a) σ H Q:=e _ ⟨AnyB,v,.list b,Z7,b,.list b,rfl,r,rfl,rfl,λy d f g=>q y d f (g.weak λa z=>z.elim id λz=>by rw[im]at z;cases z.1)⟩
theorem zfd (f:H2 q=Z9 (.dK ks))(hn:H q=Z8)(s:∀a,H2 a=Z8->H a=Z8)(r:REs Z.K H2 (nwq H q) ks (bsD bs))(h:σ[2]?=Z9 (Z9 (.ref q)))(i:σ[3]?=Z9 (Z9 (.str n)))(ok:Z2 n=Z7)(hl:bs.length<1000)
  (j:∀Q,(∀y b,Same H2 b->Rep Z.K b (Mi.nw H2) y (.list (g.map ruD))->Q y b)->wE Z v σ H2 Q)
  (k:∀b d,(∀a o,a≠q->H2 a=Z9 o->b a=Z9 o)->b q=Z9 (.dK d)->REs Z.K b (nwq H q) d (bsD (cH bs n g))->D0.nx σ b):wS Z (.seq (.put (.raw 2) (.raw 3) v) .nil) D0 σ H2:=by
 refine bE (Bg (j _ λy b c l=>aL h (aL i (.inl ⟨q,_,rfl,DPut.k (k:=.inr n) (c _ _ f) ?_,bR Z ?_⟩))))
 .have :=Bo r;rw[bt];omega
 have rr:REs Z.K b (nwq H q) (putK ks (.inr n) y) (bsD (cH bs n g)):=by
  rw[<-WA];refine REs.put (k:=.inr n) ok (l.weak λa z=>?_) (r.same c λ_ z=>z);cases a with
  |none=>exact z.elim
  |some a=>have z:H2 a=none:=z;exact⟨s a z,λe=>by cases e;rw[f]at z;cases z⟩
 exact k _ _ (λa o ne e=>by rw[aA ne];exact c a o e) aO (REs.Gz rr (c _ _ f))
theorem zqj (hκ:Z.Κ=[])(hφ:Z.Φ=[])(hq:H2 q=Z9 (.dK ks))(hn:H q=Z8)(s:∀a,H2 a=Z8->H a=Z8)(r:REs Z.K H2 (nwq H q) ks (bsD bs))(sb:Sb Z.K H2 (Mi.nw H) σ ρ)(e2:ρ[2]?=Z9 (Z9 (.al,.dict (bsD bs))))(e3:ρ[3]?=Z9 (Z9 (.al,.str n)))(ej:ρ[j]?=Z9 (Z9 (.al,ruD r1)))
  (s2:σ[2]?=Z9 (Z9 (.ref q))) (s3:σ[3]?=Z9 (Z9 (.str n))) (ok:Z2 n=Z7) (hl:bs.length<1000) (hg:(getB bs n).length<=100)
  (k:∀H3 hY,(∀a o,a≠q->H2 a=Z9 o->H3 a=Z9 o)->H3 q=Z9 (.dK hY)->REs Z.K H3 (nwq H q) hY (bsD (cH bs n (getB bs n++[r1])))->D0.nx σ H3):wS Z (L65.gE j) D0 σ H2:=by
 refine zfd hq hn s r s2 s3 ok hl (λQ hQ=>⟨ρ,FB H2 (Mi.nw H),(.fr,.list ((getB bs n++[r1]).map ruD)),sb.so,?_,λy H3 s3 ry=>hQ y H3 s3 ry⟩) k;rw[bv];have hd:Ev [] [] (.mt "get" (.var 2) (.cons (.var 3) (.cons (.lst .nil) .nil))) ρ (.list ((getB bs n).map ruD)):=by obtain⟨ys,ea,ed⟩:=z00 (z02 e3) (z00 (Ev.of (fZ dU)) z09);obtain⟨g,ev⟩:=z02 e2;refine⟨gJ (.list ((getB bs n).map ruD)) .al,?_⟩;rw[yK,ev,Res.aC,ea,Res.aC,ed];rw[show mtD "get" (.dict (bsD bs)) [.str n,.list []]=.ok ((cU (bsD bs) (.str n)).getD (.list []))from rfl,vV];rfl
 exact yL hd (Ev.of (fZ (dP (v_var ej (hW r1)) dU))) (add_list (by rw[ae];show _+1<=_;omega)) (bv▸nJ hW _)
end
structure EnA (K:Z5)(H:Hp)(bs:Bs)(x:bC)(vb vr:V):Prop where
 rb:Rep K H AnyB vb (.dict (bsD bs))
 rr:Rep K H AnyB vr (rdD x)
 nd:(bs.map (·.1)).Nodup
 lb:bs.length<=10
 lx:x.1.length<=20
 lg:∀n,(getB bs n).length<=20
def spEn (K:Z5):Sp:=λvs H Q _=>∃bs x vb vr,vs=[vb,vr]/\EnA K H bs x vb vr/\∀H' u,Same H H'->Rep K H' (Mi.nw H) u (.dict (bsD (enB bs x.1)))->Q u H'
theorem MS (bs:Bs)(l:List En)(e:En):enB bs (l++[e])=cH (enB bs l) e.1 (getB (enB bs l) e.1++[e.2.2]):=by unfold enB;rw[o0];rfl
theorem WD (bs:Bs)(n:Str)(a:List Ru):(cH bs n a).length<=bs.length+1:=by
 unfold cH;split
 .rw[ae];omega
 .rw[cg];simp_all
theorem GA:∀l bs,(enB bs l).length<=bs.length+l.length
 | [],bs=>af _
 |e::l,bs=>by have a:=GA l (cH bs e.1 (getB bs e.1++[e.2.2]));have b:=WD bs e.1 (getB bs e.1++[e.2.2]);show(enB (cH bs e.1 (getB bs e.1++[e.2.2])) l).length<=bs.length+(l.length+1);omega
theorem GB (bs:Bs)(l:List En)(n:Str):(getB (enB bs l) n).length<=(getB bs n).length+l.length:=by rw[Gv];unfold gro;rw[cg,ae];have:=gt (λe:En=>decide (e.1=n)) l;omega
section
variable {Z:Wc}{H:Hp}{D0:Ends}{bs:Bs}{x:bC}{vb vr:V}
theorem MT {H':Hp}{d:Addr}{kvs:List (Key×V)}{o:Obj}(hd:H d=Z9 (.dK kvs))(kp:∀a ob,a≠d->H a=Z9 ob->H' a=Z9 ob):Same H (upd H' d (.dK kvs)):=λa ob e=>by
 by_cases z:a=d
 .subst z;rw[hd]at e;cases e;exact aO
 .rw[aA z];exact kp a ob z e
theorem MU {ks:List (Key×V)}(hd:H d=Z9 (.dK b))(hf:c d=Z9 (.frz o (.dK b)))(r:REs Z.K c (nwq H q) ks es):REs Z.K (upd c d (.dK b)) (nwq H q) ks es:=REs.keep (λa f e z=>by
 rw[aA]
 .exact e
 .rintro rfl
  rcases z with z|z
  .have :H a=none:=z.1;rw[hd]at this;cases this
  .rw[hf]at e;cases e;exact z) (λ_ z=>z) _ r
theorem MV (b:H q=Z8)(r:Rep Z.K H AnyB vr (rdD x)):Rep Z.K H (neB [q]) vr (rdD x):=(Rep.there _ r).weak λa z=>by
 cases a with
 |none=>trivial
 |some a=>intro w;rw[ak.mp w]at z;exact z.2 b
theorem MW (c:H q=Z8)(s:Same H b):∀a,b a=Z8->H a=none:=λa h=>s.none h
theorem Bq {ks:List (Key×V)}(b:H q=Z8)(e:a q=Z9 (.dK ks))(r:REs Z.K a (nwq H q) ks (bsD bs)):Rep Z.K a (Mi.nw H) (.ref q) (.dict (bsD bs)):=⟨q,ks,rfl,e,b,REs.same (Same.refl _) (λ_ z=>z.1) r⟩
theorem zm5 (hκ:Z.Κ=[])(hφ:Z.Φ=[])(a:EnA Z.K H bs x vb vr){ks:List (Key×V)}(hq:H q=Z8)(s1:Same H H1)(e1:H1 q=Z9 (.dK ks))(r1:REs Z.K H1 (nwq H q) ks (bsD bs))(k:∀H' u,Same H H'->Rep Z.K H' (Mi.nw H) u (.dict (bsD (enB bs x.1)))->D0.rt u H'):
  wS Z (.seq (.aV (.tp [3,5,6]) (.tv (.ix (.var 1) (.int 0))) (L65.gE 6)) (.seq (.ret (.raw 2)) .nil)) D0 [Z9 vb,Z9 vr,Z9 (.ref q),o3,o4,o5,o6] H1:=by
 refine bE (z93 hκ hφ (.no (.da ((MV hq a.rr).same s1 λ_ z=>z) (.no (.no (.no (.no (.no .nil))))))) (bI rfl rfl) (λb=>b=q) (λb hb=>?_) (λk σ' H'=>Same H H'/\∃hY,H' q=Z9 (.dK hY)/\REs Z.K H' (nwq H q) hY (bsD (enB bs (x.1.take k)))/\∃o3 o4 o5 o6,σ'=[Z9 vb,Z9 vr,Z9 (.ref q),o3,o4,o5,o6]) (λH2 s2=>⟨s1.trans s2,ks,s2 _ _ e1,r1.same s2 λ_ z=>z,_,_,_,_,rfl⟩) ?_ ?_)
 .subst hb;exact⟨⟨_,e1,λz=>z⟩,λz=>z (.head _)⟩
 .rintro i y d σ' H' H2 D2 hd ⟨sH,hY,e',r',o3,o4,o5,o6,rfl⟩ s2 ry mS nx
  rw[ba]at hd;obtain⟨e,he,rfl⟩:=bu.mp hd;have tk:x.1.take (i+1)=x.1.take i++[e]:=by rw[fu,he];rfl
  refine zo3 ry (by simp) (by simp) (by simp) (by decide) (by decide) (by decide) λu w z ru gG rz=>?_;obtain⟨rfl,ok⟩:=ru;have zF:=sH.trans s2;have r2:=r'.same s2 λ_ z=>z;have l1:=GA (x.1.take i) bs;have l2:=GB bs (x.1.take i) e.1;have l3:=a.lg e.1;have l4:=a.lx;have l5:=a.lb;rw[db]at l1 l2;refine zqj (ρ:=[Z8,Z8,Z9 (.al,.dict (bsD (enB bs (x.1.take i)))),Z9 (.al,.str e.1),Z8,Z8,Z9 (.al,ruD e.2.2)]) hκ hφ (s2 _ _ e') hq (MW hq zF) r2 (.no (.no (.da (Bq hq (s2 _ _ e') r2) (.da ⟨rfl,ok⟩ (.no (.no (.da (Rep.aT _ (hW _) rz) .nil))))))) rfl rfl rfl rfl rfl ok (by omega) (by omega) λH3 GC k3 e3 r3=>nx _ _ ⟨λb o eb=>k3 b o (λz=>by rw[z,hq]at eb;cases eb) (zF b o eb),GC,e3,?_,_,_,_,_,rfl⟩ λb o hb eb=>k3 b o hb (s2 b o eb);rw[tk,MS];exact r3
 .rintro σ' H' ⟨sH,hY,e',r',o3,o4,o5,o6,rfl⟩
  rw[ae,gg]at r';exact fQ (aL rfl (k H' _ sH (Bq hq e' r')))
theorem zl4 (hκ:Z.Κ=[])(hφ:Z.Φ=[])(a:EnA Z.K H bs x vb vr){ks:List (Key×V)}(hq:H q=Z8)(s1:Same H H1)(e1:H1 q=Z9 (.dK ks))(r1:REs Z.K H1 (nwq H q) ks (bsD bs))(k:∀H' u,Same H H'->Rep Z.K H' (Mi.nw H) u (.dict (bsD (enB bs x.1)))->D0.rt u H'):
  wS Z (.seq (.aV (.tp [3,4,5]) (.tv (.ix (.var 1) (.int 0))) (L65.gE 5)) (.seq (.ret (.raw 2)) .nil)) D0 [Z9 vb,Z9 vr,Z9 (.ref q),o3,o4,o5] H1:=by
 refine bE (z93 hκ hφ (.no (.da ((MV hq a.rr).same s1 λ_ z=>z) (.no (.no (.no (.no .nil)))))) (bI rfl rfl) (λb=>b=q) (λb hb=>?_) (λk σ' H'=>Same H H'/\∃hY,H' q=Z9 (.dK hY)/\REs Z.K H' (nwq H q) hY (bsD (enB bs (x.1.take k)))/\∃o3 o4 o5,σ'=[Z9 vb,Z9 vr,Z9 (.ref q),o3,o4,o5]) (λH2 s2=>⟨s1.trans s2,ks,s2 _ _ e1,r1.same s2 λ_ z=>z,_,_,_,rfl⟩) ?_ ?_)
 .subst hb;exact⟨⟨_,e1,λz=>z⟩,λz=>z (.head _)⟩
 .rintro i y d σ' H' H2 D2 hd ⟨sH,hY,e',r',o3,o4,o5,rfl⟩ s2 ry mS nx
  rw[ba]at hd;obtain⟨e,he,rfl⟩:=bu.mp hd;have tk:x.1.take (i+1)=x.1.take i++[e]:=by rw[fu,he];rfl
  refine zo3 ry (by simp) (by simp) (by simp) (by decide) (by decide) (by decide) λu w z ru gG rz=>?_;obtain⟨rfl,ok⟩:=ru;have zF:=sH.trans s2;have r2:=r'.same s2 λ_ z=>z;have l1:=GA (x.1.take i) bs;have l2:=GB bs (x.1.take i) e.1;have l3:=a.lg e.1;have l4:=a.lx;have l5:=a.lb;rw[db]at l1 l2;refine zqj (ρ:=[Z8,Z8,Z9 (.al,.dict (bsD (enB bs (x.1.take i)))),Z9 (.al,.str e.1),Z8,Z9 (.al,ruD e.2.2)]) hκ hφ (s2 _ _ e') hq (MW hq zF) r2 (.no (.no (.da (Bq hq (s2 _ _ e') r2) (.da ⟨rfl,ok⟩ (.no (.da (Rep.aT _ (hW _) rz) .nil)))))) rfl rfl rfl rfl rfl ok (by omega) (by omega) λH3 GC k3 e3 r3=>nx _ _ ⟨λb o eb=>k3 b o (λz=>by rw[z,hq]at eb;cases eb) (zF b o eb),GC,e3,?_,_,_,_,rfl⟩ λb o hb eb=>k3 b o hb (s2 b o eb);rw[tk,MS];exact r3
 .rintro σ' H' ⟨sH,hY,e',r',o3,o4,o5,rfl⟩
  rw[ae,gg]at r';exact fQ (aL rfl (k H' _ sH (Bq hq e' r')))
structure vW (K:Z5)(H:Hp)(d q:Addr)(kvs:List (Key×V))(bs:Bs)(o:Obj)(k:Nat)(H':Hp):Prop where
 fz:H' d=Z9 (.frz o (.dK kvs))
 kp:∀a ob,a≠d->H a=Z9 ob->H' a=Z9 ob
 q:∃ks,H' q=Z9 (.dK ks)/\REs K H' (nwq H q) ks (bsD (bs.take k))
theorem zI (c:H q=Z8)(hd:H d=Z9 (.dK b)):vW Z.K H d q b bs o 0 (upd (upd H q (.dK [])) d (.frz o (.dK b))) where
 fz:=aO
 kp:=λa f z e=>by rw[aA z,aA λw=>by rw[w,c]at e;cases e];exact e
 q:=⟨[],by rw[aA λw=>by rw[w,hd]at c;cases c];exact aO,rfl⟩
theorem MX (hd:H d=Z9 (.dK b))(i:vW Z.K H d q b bs o k c):∀a,c a=Z8->H a=none:=λa h=>by
 cases e:H a with
 |none=>rfl
 |some f=>
  by_cases z:a=d
  .rw[z,i.fz]at h;cases h
  .rw[i.kp a f z e]at h;cases h
theorem WE (hd:H d=Z9 (.dK b))(s:Same c f)(i:vW Z.K H d q b bs o k c):vW Z.K H d q b bs o k f where
 fz:=s _ _ i.fz
 kp:=λa g z e=>s _ _ (i.kp a g z e)
 q:=by obtain⟨ks,e,r⟩:=i.q;exact⟨ks,s _ _ e,r.same s λ_ z=>z⟩
theorem WG (hκ:Z.Κ=[])(hφ:Z.Φ=[])(a:EnA Z.K H bs x vb vr)(k:∀H' u,Same H H'->Rep Z.K H' (Mi.nw H) u (.dict (bsD (enB bs x.1)))->D0.rt u H'):wS Z L65.en D0 [Z9 vb,Z9 vr,Z8,Z8,Z8,Z8,Z8] H:=by
 obtain⟨d,kvs,rfl,hd,_,rs⟩:=a.rb;refine bN (λq hq=>?_);have gR:upd H q (.dK []) d=Z9 (.dK kvs):=by rw[aA λw=>by rw[w,hq]at hd;cases hd];exact hd
 have ln:=Bo rs;refine bE (zlk (λo k σ' H'=>vW Z.K H d q kvs bs o k H'/\∃o3 o4 o5 o6,σ'=[Z9 (.ref d),Z9 vr,Z9 (.ref q),o3,o4,o5,o6]) rfl gR (λo=>⟨zI hq hd,_,_,_,_,rfl⟩) (λo k σ' H' h=>h.1.fz) ?_ ?_)
 .rintro o i key v σ' H' p hk ⟨fi,o3,o4,o5,o6,rfl⟩ hp D2 nx
  obtain⟨e,he,rfl,ok,rv⟩:=Gy rs hk;have sp:Same H' (upd H' p (.tup [kV (.inr e.1),v])):=Same.upd hp;have zJ:=WE hd sp fi;have GF:=Gx hd zJ.kp rv;refine zt3 (a:=.str e.1) ⟨p,_,rfl,bF.of aO,⟨_,_,rfl,⟨rfl,ok⟩,⟨v,[],rfl,GF,rfl⟩⟩⟩ (by simp) (by simp) (by decide) λnX u w hl e3 e4 ru gG rest=>?_;have es:=L6 (by decide) hl e3 e4 rest;subst es;obtain⟨rfl,_⟩:=ru;obtain⟨ks,eq,rq⟩:=zJ.q;have lt:(bs.take i).length<1000:=by rw[db];have:=a.lb;omega
  refine zfd eq hq (MX hd zJ) rq rfl rfl ok lt (λQ hQ=>Bp (λR h=>aL rfl h) gG (nJ hW _) hQ) λH3 hY k3 e3 r3=>nx _ _ ⟨⟨k3 _ _ (λz=>by rw[z,hq]at hd;cases hd) zJ.fz,λb ob z eb=>k3 b ob (λz=>by rw[z,hq]at eb;cases eb) (zJ.kp b ob z eb),hY,e3,?_⟩,_,_,_,_,rfl⟩;rw[<-MR a.nd he];exact r3
 .rintro o σ' H' ⟨fi,o3,o4,o5,o6,rfl⟩
  obtain⟨ks,eq,rq⟩:=fi.q;rw[ln,gg]at rq;refine zm5 hκ hφ a hq (MT (o:=o) hd fi.kp) ?_ (MU hd fi.fz rq) k;rw[aA λz=>by rw[z,hd]at hq;cases hq];exact eq
theorem WH (hκ:Z.Κ=[])(hφ:Z.Φ=[])(a:EnA Z.K H bs x vb vr)(k:∀H' u,Same H H'->Rep Z.K H' (Mi.nw H) u (.dict (bsD (enB bs x.1)))->D0.rt u H'):wS Z L65.pu D0 [Z9 vb,Z9 vr,Z8,Z8,Z8,Z8] H:=by
 obtain⟨d,kvs,rfl,hd,_,rs⟩:=a.rb;refine bN (λq hq=>?_);have gR:upd H q (.dK []) d=Z9 (.dK kvs):=by rw[aA λw=>by rw[w,hq]at hd;cases hd];exact hd
 have ln:=Bo rs;refine bE (zkf (λo k σ' H'=>vW Z.K H d q kvs bs o k H'/\∃o3 o4 o5,σ'=[Z9 (.ref d),Z9 vr,Z9 (.ref q),o3,o4,o5]) rfl gR (λo=>⟨zI hq hd,_,_,_,rfl⟩) (λo k σ' H' h=>h.1.fz) ?_ ?_)
 .rintro o i key v σ' H' hk ⟨fi,o3,o4,o5,rfl⟩ D2 nx
  obtain⟨e,he,rfl,ok,rv⟩:=Gy rs hk;obtain⟨ks,eq,rq⟩:=fi.q;have lt:(bs.take i).length<1000:=by rw[db];have:=a.lb;omega
  have vv:=REs.val (.inr e.1) rs;have dl:=vV e.1 bs;rw[WC a.nd (bn he)]at dl;cases zK:cU (bsD bs) (kD (.inr e.1))with
  |none=>
   exfalso;have:(bsD bs).any (λz=>eqK z.1 (.str e.1))=true:=by rw[Bn];exact gh.mpr ⟨e,bn he,xp rfl⟩
   unfold cU at zK;rw[qs,oa]at zK;obtain⟨z,hz,ez⟩:=gh.mp this;exact zK z hz ez
  |some dd=>rw[zK]at vv;rw[show cU (bsD bs) (.str e.1)=Z9 dd from zK]at dl;subst dl;obtain⟨v',ev,Dk⟩:=vv;have GF:=Gx hd fi.kp Dk;refine zfd eq hq (MX hd fi) rq rfl rfl ok lt (λQ hQ=>Bp (λR h=>⟨.ref d,rfl,.str e.1,rfl,d,v',rfl,.inl ⟨kvs,.inr e.1,.inr ⟨o,fi.fz⟩,rfl,ev.symm⟩,h⟩) GF (nJ hW _) hQ) λH3 hY k3 e3 r3=>nx _ _ ⟨⟨k3 _ _ (λz=>by rw[z,hq]at hd;cases hd) fi.fz,λb ob z eb=>k3 b ob (λz=>by rw[z,hq]at eb;cases eb) (fi.kp b ob z eb),hY,e3,?_⟩,_,_,_,rfl⟩;rw[<-MR a.nd he];exact r3
 .rintro o σ' H' ⟨fi,o3,o4,o5,rfl⟩
  obtain⟨ks,eq,rq⟩:=fi.q;rw[ln,gg]at rq;refine zl4 hκ hφ a hq (MT (o:=o) hd fi.kp) ?_ (MU hd fi.fz rq) k;rw[aA λz=>by rw[z,hd]at hq;cases hq];exact eq
end
abbrev Φl:List Fn:=[Fx]
def kJ (ths:List P)(ss:List Int):List P:=(ths.zip ss).map tY
structure Lw (K:Z5)(Ha:Hp)(y z:Bool)(ths:List P)(ss:List Int)(bs:Bs)(v3 v4 v7 v8 v9:V):Prop where
 r3:Rep K Ha AnyB v3 (rwsD y z)
 r4:Rep K Ha AnyB v4 (.list (ths.map pk))
 r7:Rep K Ha AnyB v7 (.dict (bsD bs))
 r8:Rep K Ha AnyB v8 (.list ((kJ ths ss).map pk))
 r9:Rep K Ha AnyB v9 (.list [rwsD y z,.dict (bsD bs),.list ((kJ ths ss).map pk)])
 th:∀t∈ths,mU F3 t
 tl:ths.length<=3
 ls:ss.length=ths.length
 nd:(bs.map (·.1)).Nodup
 lb:bs.length<=2
 lg:∀n,(getB bs n).length<=4
 co:∀n,Cons biR sdR (getB bs n)
 wo:(bs.any λe=>decide (e.1="wopen"))=Z7
theorem vX (h:∀t∈ths,mU F3 t)(hl:a.length=ths.length):(kJ ths a).map (nK F3)=ths:=by
 unfold kJ;rw[dg];have e:(ths.zip a).map (nK F3∘tY)=(ths.zip a).map (·.1):=i9 λq b=>by exact Wv λp c=>(h q.1 ((g8 b).1)).sub.subset (mz c)
 rw[e,List.map_fst_zip (ur hl.symm)]
theorem MY (hl:a.length=ths.length):(kJ ths a).length=ths.length:=by unfold kJ;rw[ae,j9];omega
theorem GG (h:mU F3 t):vU t:=λn=>by
 unfold look;cases e:Mk.fnd t n with
 |none=>decide
 |some v=>exact h.up _ (pE e)
section
variable {K:Z5}{Ha H:Hp}{y z:Bool}{ths:List P}{ss:List Int}{bs:Bs}{v3 v4 v7 v8 v9:V}
theorem GH (f:Lw K Ha y z ths ss bs v3 v4 v7 v8 v9)(s:Same Ha H)(rb:Rep K H AnyB b (.dict (bsD a)))(lg:∀n,(getB a n).length<=20):RgA K H (rwsO y z) (bsD a) (getB a) (kJ ths ss) (nK F3) v3 b v8 where
 ok:=Wy y z λn _=>⟨vV n a,lg n⟩
 ra:=f.r3.same s λ_ z=>z
 rb:=rb
 rt:=f.r8.same s λ_ z=>z
 hf:=λt ht=>⟨Ww y z t,by have:nK F3 t∈(kJ ths ss).map (nK F3):=mz ht;rw[vX f.th f.ls]at this;exact(f.th _ this).pk⟩
 hu:=⟨2*(kJ ths ss).length,by rw[MY f.ls];have:=f.tl;omega,Wx y z _⟩
 hl:=by rw[MY f.ls];have:=f.tl;omega
theorem WI (f:Lw K Ha y z ths ss bs v3 v4 v7 v8 v9)(bk:Str->List Ru):∀x∈run5 bk ths (rwsO y z),mV x:=MD (by have :=f.tl;omega) (λt ht=>GG (f.th t ht)) (rwsO y z) _ (MQ y z).1 (MQ y z).2 λx hx=>by rw[ak.mp hx];refine⟨nofun,λw a s hs=>?_⟩;obtain⟨_,_,rfl⟩:=au.mp a;cases hs
theorem MZ (f:Lw K Ha y z ths ss bs v3 v4 v7 v8 v9)(s:Same Ha H)(rb:Rep K H AnyB c (.dict (bsD a)))(lg:∀n,(getB a n).length<=20)(rf:Rep K H AnyB d (.list ((run5 (getB a) ths (rwsO y z)).map rdD)))(h0:0<=b):ToA K H (rwsO y z) (bsD a) (getB a) (kJ ths ss) (nK F3) nQ b v3 c v4 d v8 where
 rg:=GH f s rb lg
 rt:=by rw[vX f.th f.ls];exact f.r4.same s λ_ z=>z
 rf:=by rw[vX f.th f.ls];exact rf
 im:=MP y z
 cl:=Wt y z
 n4:=rfl
 ca:=Ws y z
 sm:=by rw[vX f.th f.ls];exact WI f _
 tn:=h0
theorem M0 (f:Lw K Ha y z ths ss bs v3 v4 v7 v8 v9)(bk:Str->List Ru):(run5 bk ths (rwsO y z)).length<=256/\∀x∈run5 bk ths (rwsO y z),x.1.length<=8:=by
 have a:=Be (bk:=bk) (ths:=ths) (by have :=f.tl;omega) (rwsO y z) [([],ths.map λ_=>[])] 0 0 (af 1) λx hx=>by rw[ak.mp hx];exact⟨ae ..,be _,λw b=>by obtain⟨_,_,rfl⟩:=au.mp b;exact be _⟩
 exact⟨a.1,λx hx=>(a.2 x hx).m⟩
theorem M1 (bs:Bs):∀e∈bsD bs,aG 30 e.2=true:=λe he=>by obtain⟨f,_,rfl⟩:=au.mp he;exact iC.mpr λx hx=>by obtain⟨r,_,rfl⟩:=au.mp hx;exact Mf 25 r
theorem WJ (y z:Bool):aG 30 (rwsD y z)=true:=by cases y<;>cases z<;>rfl
theorem WK (l:List P):aG 30 (.list (l.map pk))=true:=iC.mpr λx hx=>by obtain⟨r,_,rfl⟩:=au.mp hx;exact Bf 27 r
theorem GI (y z:Bool)(bs:Bs)(l:List P):∀e∈[rwsD y z,.dict (bsD bs),.list (l.map pk)],E9 e:=λe a=>by
 rcases ao.mp a with rfl|a
 .exact .inl (WJ y z)
 rcases ao.mp a with rfl|a
 .exact .inr ⟨_,rfl,M1 bs⟩
 .rw[ak.mp a];exact .inl (WK l)
end
section
variable {Z:Wc}{σ:L2.St}{H:Hp}
theorem M3 (q:wE Z a σ H λx H1=>wE Z b σ H1 λy H2=>qJ Z.K ne x y H2 λz H3=>∃k,z=.bl k/\R k H3):wT Z (.vI ne a b) σ H R:=q
theorem WL (q:wE Z a σ H λx c=>wE Z b σ c λy d=>qJ Z.K ne x y d Q):wE Z (.yN ne a b) σ H Q:=q
theorem M4 (q:wT Z a σ H λb c=>R (!b) c):wT Z (.not a) σ H R:=q
theorem WM (q:wE Z a σ H λx d=>wE Z b σ d λy c=>∃a v,x=.ref a/\DGet c a y (Z9 v)/\Q v c):wE Z (.vH a b) σ H Q:=q
theorem WN (q:wE Z o σ H λx a=>tyV Z.K "dict" x a/\AE x [] a λ_ b=>c.nx σ b):wS Z (.yQ o) c σ H:=q
end
abbrev Br (v0:V)(b1 b2:Bool)(v3 v4:V)(o5:Option V)(base:Int)(v7 v8 v9:V)(nR nT iZ gA gB:Option V):L2.St:=[Z9 v0,Z9 (.bl b1),Z9 (.bl b2),Z9 v3,Z9 v4,o5,Z9 (.int base),Z9 v7,Z9 v8,Z9 v9,nR,nT,iZ,gA,gB]
theorem GJ {k:Nat}(a:c[10]?=Z9 (Z9 (.ref p)))(b:c[12]?=Z9 (Z9 (.int k)))(e:H p=Z9 (.lst d))(ev:d[k]?=Z9 v)(hk:k<1000)(q:Q v H):wE Z L65.fk c H Q:=yU (aL a (aL b (F9 e ev hk q)))
section
variable {Z:Wc}{Ha H:Hp}{D2:Ends}{y z:Bool}{ths:List P}{ss:List Int}{bs:Bs}{v0 v3 v4 v7 v8 v9:V}{b1 b2:Bool}{o5 gA gB:Option V}{base step:Int}{p10:Addr}{vs10:List V}
theorem go_same (f:Lw Z.K Ha y z ths ss bs v3 v4 v7 v8 v9)(s:Same Ha H)(e:a[3]?=Z9 (Z9 v3))(g:a[7]?=Z9 (Z9 v7))(h:a[8]?=Z9 (Z9 v8))(i:a[9]?=Z9 (Z9 v9))(q:∀d,Same H d->Q (.bl (!ne)) d):
  wE Z (.lst (L65.a3 (.raw 3) (.raw 7) (.raw 8))) a H λx j=>wE Z (.raw 9) a j λy k=>qJ Z.K ne x y k Q:=by
 refine fH (aH (aL e (aH (aL g (aH (aL h (bD ⟨by rw[bt];show 3<=_;decide,λp l=>aL i ?_⟩)))))));have u:Same H (upd H p (.lst ([v3,v7,v8]))):=Same.upd l;have c:=s.trans u;obtain⟨b,m,rfl,_⟩:=id f.r9;refine⟨p,b,.list [rwsD y z,.dict (bsD bs),.list ((kJ ths ss).map pk)],AnyB,AnyB,rfl,rfl,⟨p,_,rfl,.inl ⟨aO,trivial⟩,v3,_,rfl,f.r3.same c λ_ z=>z,v7,_,rfl,f.r7.same c λ_ z=>z,v8,_,rfl,f.r8.same c λ_ z=>z,rfl⟩,f.r9.same c λ_ z=>z,.inr ⟨_,rfl,GI y z bs _⟩,q _ u⟩
theorem ztj (hκ:Z.Κ=[])(hφ:Z.Φ=Φl)(f0:Z.fn[0]?=Z9 (spTo Z.K))(f1:Z.fn[1]?=Z9 (spRd Z.K))(f2:Z.fn[2]?=Z9 (spEn Z.K))(f3:Z.fn[3]?=Z9 (spEn Z.K))(f:Lw Z.K Ha y z ths ss bs v3 v4 v7 v8 v9)(s:Same Ha H)(C:H p10=Z9 (.lst vs10))(r10:Reps Z.K H AnyB vs10 ((run5 (getB bs) ths (rwsO y z)).map rdD))(hk:k<(run5 (getB bs) ths (rwsO y z)).length)
  (nx:∀H3 gA gB,Same H H3->D2.nx (Br v0 b1 b2 v3 v4 o5 base v7 v8 v9 (Z9 (.ref p10)) (Z9 (.int step)) (Z9 (.int k)) gA gB) H3):
  wS Z L65.LW D2 (Br v0 b1 b2 v3 v4 o5 base v7 v8 v9 (Z9 (.ref p10)) (Z9 (.int step)) (Z9 (.int k)) gA gB) H:=by
 obtain⟨ll,lx⟩:=M0 f (getB bs);have D:k<1000:=by omega
 obtain⟨x,ex⟩:∃x,(run5 (getB bs) ths (rwsO y z))[k]?=Z9 x:=⟨_,aq hk⟩;have mx:=bn ex;obtain⟨vx,ev,rx⟩:=Reps.get r10 (by rw[ba,ex];rfl);have Yt:=lx x mx;have lb:=f.lb;have E:∀n,(getB (enB bs x.1) n).length<=20:=λn=>by have h1:=GB bs x.1 n;have h2:=f.lg n;omega
 have al:run5 (getB (enB bs x.1)) ths (rwsO y z)=[([],x.2)]:=by rw[show getB (enB bs x.1)=gro (getB bs) x.1 from funext λn=>Gv x.1 bs n];exact alone f.co mx
 have M:∀{H1:Hp},Same H H1->EnA Z.K H1 bs x v7 vx:=λ{H1} s1=>⟨f.r7.same (s.trans s1) λ_ z=>z,rx.same s1 λ_ z=>z,f.nd,by omega,by omega,λn=>by have:=f.lg n;omega⟩;refine bN (dZ f3 (aH (aL rfl (aH (GJ rfl rfl C ev D (bD ⟨bs,x,v7,vx,rfl,M (Same.refl H),λH3 u s3 ru=>?_⟩))))));obtain⟨a,o,eu,F,WO,WQ⟩:=id ru;subst eu;refine bE (eW (Bh (M3 (aL rfl (dZ f2 (aH (aL rfl (aH (GJ rfl rfl (s3 _ _ C) ev D (bD ⟨bs,x,v7,vx,rfl,M s3,λH4 u' s4 N=>?_⟩))))))))));obtain⟨p',_,WR,_⟩:=id N;subst WR;have O:=s3.trans s4;refine⟨a,p',_,_,_,rfl,rfl,ru.same s4 λ_ z=>z,N,.inl ⟨_,rfl,M1 _⟩,Z6,rfl,?_⟩;refine M3 (go_same f (s.trans O) rfl rfl rfl rfl λH5 s5=>⟨Z6,rfl,bR Z ?_⟩);have Bt:=O.trans s5;obtain⟨tx,wx,WT,WU,WV⟩:=id rx;subst WT;obtain⟨w0,wr,rfl,_,⟨J,_,rfl,WW,rfl⟩⟩:=WV;refine bN (fH (aH (vJ (aH (fH (bD ⟨be _,λj WX=>?_⟩))))));have ua:Same H5 (upd H5 j (.lst [])):=Same.upd WX;have ea:upd H5 j (.lst []) j=Z9 (.lst []):=aO;generalize upd H5 j (.lst [])=H6 at ua ea ⊢;have G:=Bt.trans ua;refine aH (yU (GJ rfl rfl (G _ _ C) ev D (fO λL s7=>MJ (bF.same WU (G.trans s7)) rfl (bD ⟨by rw[bt];show 2<=_;decide,λm WY=>bD ⟨by rw[bt];show 1<=_;decide,λpc WZ=>?_⟩⟩))));have ub:Same L (upd L m (.tup [.ref j,J])):=Same.upd WY;have uc:Same (upd L m (.tup [.ref j,J])) (upd (upd L m (.tup [.ref j,J])) pc (.lst [.ref m])):=Same.upd WZ;have v:=uc _ _ aO;have ec:upd (upd L m (.tup [.ref j,J])) pc (.lst [.ref m]) pc=Z9 (.lst [.ref m]):=aO;have p:=ub.trans uc;generalize upd (upd L m (.tup [.ref j,J])) pc (.lst [.ref m])=H8 at p v ec ⊢;have P:=G.trans (s7.trans p);have Q:=ua.trans (s7.trans p);have R:Rep Z.K H8 AnyB (.ref pc) (.list (([([],x.2)]:List bC).map rdD)):=⟨pc,_,rfl,.inl ⟨ec,trivial⟩,⟨.ref m,[],rfl,⟨m,_,rfl,bF.of v,⟨.ref j,_,rfl,⟨j,[],rfl,.inl ⟨(s7.trans p) _ _ ea,trivial⟩,rfl⟩,⟨J,[],rfl,WW.same P λ_ z=>z,rfl⟩⟩⟩,rfl⟩⟩;have S:∀{H9:Hp},Same H8 H9->Rep Z.K H9 AnyB (.ref a) (.dict (bsD (enB bs x.1))):=λ{H9} s9=>ru.same (s4.trans (s5.trans (Q.trans s9))) λ_ _=>trivial;have T:=s.trans P;refine bE (eW (Bh (yV (dZ f1 (aH (aL rfl (aH (aL rfl (aH (aL rfl (bD ⟨_,_,_,_,_,v3,.ref a,v8,rfl,GH f T (S (Same.refl H8)) E,λH9 u9 s9 r9=>?_⟩)))))))))));rw[vX f.th f.ls,al]at r9;refine aL rfl (yT r9 (R.same s9 λ_ z=>z) (AL (show aG 40 _=Z7 from iC.mpr λd hd=>by obtain⟨r,_,rfl⟩:=au.mp hd;exact Gg 32 r)) λBi tR=>⟨Z6,rfl,?_⟩);have U:=s9.trans tR;refine M4 (K0 (dZ f0 (aH (aL rfl (aH (aL rfl (aH (aL rfl (aH (aL rfl (aH (bX hκ hφ (.no (.no (.no (.no (.no (.no (.fP (.no (.no (.no (.no (.no (.no (.no (.no .nil))))))))))))))) (dC (z02 rfl) z08.e (kZ (by decide)) rfl).e λvm Yu tT rm=>aH (aL rfl (bD ?_))))))))))))));obtain rfl:vm=.int (base%3):=rm;have c:=U.trans tT;refine⟨_,_,_,_,_,_,_,v3,.ref a,v4,.ref pc,v8,rfl,MZ f (T.trans c) (S c) E (by rw[al];exact R.same c λ_ z=>z) (i6 _ (by decide)),λW0 qR=>⟨Z7,rfl,bR Z ?_⟩⟩;have V:=c.trans qR;have i:=s4.trans (s5.trans (Q.trans V));have vv:=REs.val (.inr ("wopen":Str)) WQ
 obtain⟨rs,W⟩:∃rs:List Ru,cU (bsD (enB bs x.1)) (kD (.inr "wopen"))=Z9 (.list (rs.map ruD)):=by
  have X:∀(l:List En) (bs:Bs),(bs.any λe=>decide (e.1="wopen"))=Z7->((enB bs l).any λe=>decide (e.1="wopen"))=true:=by
   intro l
   induction l with
   |nil=>exact λbs h=>h
   |cons e l ih=>
    intro bs h;refine ih (cH bs e.1 (getB bs e.1++[e.2.2])) ?_;unfold cH;split
    .obtain⟨g,hg,eg⟩:=gh.mp h;refine gh.mpr ⟨_,mz hg,?_⟩;split
     .exact eg
     .exact eg
    .rw[List.any_append,h];rfl
  have h:=X x.1 bs f.wo;rw[<-Bn]at h;have I:=vV "wopen" (enB bs x.1);cases hd:cU (bsD (enB bs x.1)) (kD (.inr "wopen"))with
  |none=>unfold cU at hd;rw[qs,oa]at hd;obtain⟨g,hg,eg⟩:=gh.mp h;exact absurd eg (hd g hg)
  |some dd=>rw[show cU (bsD (enB bs x.1)) (.str "wopen")=Z9 dd from hd]at I;exact⟨_,congrArg Z9 I⟩
 rw[W]at vv;obtain⟨vo,W2,W3⟩:=vv;obtain⟨lo,ws,rfl,W4,q,W5⟩:=zt W3;have lw:ws.length=rs.length:=by rw[W5.length,ae]
 have Yv:rs.length<=20:=by have I:=vV "wopen" (enB bs x.1);rw[show cU (bsD (enB bs x.1)) (.str "wopen")=_ from W]at I;injection I with I;have:=congrArg qz I;rw[ae,ae]at this;rw[this];exact E _
 refine bE (qS (WM (aL rfl (Fo (by decide+kernel) λM5 t=>⟨a,.ref lo,rfl,.inl ⟨o,.inr "wopen",.inl (t _ _ (i _ _ F)),rfl,W2.symm⟩,.inl ⟨rfl,_,SqL.of (t _ _ (i _ _ q))⟩,fO λM6 Y=>⟨lo,ws,.int 1,rfl,rfl,Y _ _ (t _ _ (i _ _ q)),by rw[bt];omega,?_⟩⟩))));have nl:lo≠a:=λw=>by rw[w,F]at q;cases q
 have A:=i.trans (t.trans Y);have B:upd M6 lo (.lst (ws++[.int 1])) a=Z9 (.dK o):=by rw[aA (Ne.symm nl)];exact A _ _ F
 refine bE (WN (aL rfl ⟨.inr (.inr (.inl ⟨rfl,.inl ⟨o,B⟩⟩)),a,o,rfl,rfl,B,bR Z (nx _ _ _ λb ob v=>?_)⟩));rw[aA (λw=>by rw[w,show H a=Z8 from WO]at v;cases v),aA (λw=>by rw[w,W4]at v;cases v)];exact A _ _ (s3 _ _ v)
end
theorem W6:∀s∈F3,Z2 s=true:=λs hs=>by
 have:F3.all Z2=true:=by decide+kernel
 exact bg.mp this s hs
theorem W7:F3.Pairwise sl:=dj.mpr ⟨λy a=>by
 rcases ao.mp a with rfl|a
 .show _<_;decide
 .rw[ak.mp a];show _<_;decide,ML (show _<_ by decide)⟩
theorem W8 {b:Type}(a:List b)(h0:0<=m)(c:m<4):(cut a (Z9 3) (Z9 (3+m))).length<=3:=by
 have:m=0\/m=1\/m=2\/m=3:=by omega
 unfold cut;rw[db];rcases this with rfl|rfl|rfl|rfl
 .show min (min 3 a.length-min 3 a.length) _<=3;omega
 .show min (min 4 a.length-min 3 a.length) _<=3;omega
 .show min (min 5 a.length-min 3 a.length) _<=3;omega
 .show min (min 6 a.length-min 3 a.length) _<=3;omega
section
variable {Z:Wc}{Hb:Hp}{D0:Ends}{xs:List Int}{v0:V}{B:Ad->Prop}{b1 b2:Bool}{v3:V}{p4:Addr}
theorem zqz (hκ:Z.Κ=[])(hφ:Z.Φ=Φl)(f5:Z.fn[5]?=Z9 (spDn Z.K))(f7:Z.fn[7]?=Z9 (spPc Z.K))(r0:Rep Z.K Hb B v0 (.list (xs.map .int)))(h4:Hb p4=Z8)
  (q:∀H' (ths:List P) vs o5,Same Hb H'->H' p4=Z9 (.lst vs)->Reps Z.K H' NoB vs (ths.map pk)->ths.length<=3->(∀t∈ths,mU F3 t)->D0.nx [Z9 v0,Z9 (.bl b1),Z9 (.bl b2),Z9 v3,Z9 (.ref p4),o5,Z8,Z8,Z8,Z8,Z8,Z8,Z8,Z8,Z8] H'):
  wS Z L65.LV D0 [Z9 v0,Z9 (.bl b1),Z9 (.bl b2),Z9 v3,Z9 (.ref p4),Z8,Z8,Z8,Z8,Z8,Z8,Z8,Z8,Z8,Z8] (upd Hb p4 (.lst [])):=by
 have tl:∀{H':Hp},Sl Z.K H' [Z8,Z8,Z8,Z8,Z8,Z8,Z8,Z8,Z8] [Z8,Z8,Z8,Z8,Z8,Z8,Z8,Z8,Z8]:=λ{H'}=>.no (.no (.no (.no (.no (.no (.no (.no (.no .nil))))))));have sl:∀{H':Hp} {o5:Option V} {q5:Option GD},Same Hb H'->Sl Z.K H' [o5,Z8,Z8,Z8,Z8,Z8,Z8,Z8,Z8,Z8] [q5,Z8,Z8,Z8,Z8,Z8,Z8,Z8,Z8,Z8]->Sl Z.K H' [Z9 v0,Z9 (.bl b1),Z9 (.bl b2),Z9 v3,Z9 (.ref p4),o5,Z8,Z8,Z8,Z8,Z8,Z8,Z8,Z8,Z8] [Z9 (.od,.list (xs.map .int)),Z8,Z8,Z8,Z8,q5,Z8,Z8,Z8,Z8,Z8,Z8,Z8,Z8,Z8]:=λ{H' o5 q5} s t=>.da (r0.same s λ_ z=>z) (.no (.no (.no (.no t))));obtain⟨c0,e0⟩:=zo xs (k:=0) (by decide);have n0:0<=c0/3%4:=i6 _ (by decide);have l3:=W8 xs n0 (ku _ (by decide));have ev:evW [] Φl (.tv (.sl (.var 0) (.tv (.int 3)) (.tv (.bin .Add (.int 3) (.bin .Mod (.bin .FloorDiv (L65.ca 0) (.int 3)) (.int 4)))))) [Z9 (.od,.list (xs.map .int)),Z8,Z8,Z8,Z8,Z8,Z8,Z8,Z8,Z8,Z8,Z8,Z8,Z8,Z8]=.ok (.fr,(cut xs (Z9 3) (Z9 (3+c0/3%4))).map .int):=by refine bI (x:=.list ((cut xs (Z9 3) (Z9 (3+c0/3%4))).map .int)) ?_ rfl;show(Res.ok (G.od,Z0 (xs.map .int))>>=λx=>_)=_;have hb:Oo [] Φl (.tv (.bin .Add (.int 3) (.bin .Mod (.bin .FloorDiv (L65.ca 0) (.int 3)) (.int 4)))) [Z9 (.od,.list (xs.map .int)),Z8,Z8,Z8,Z8,Z8,Z8,Z8,Z8,Z8,Z8,Z8,Z8,Z8,Z8] (Z9 (3+c0/3%4)):=AA (dC z08.e (dC (dC (fN (z00 (z02 rfl) (z00 z08.e z09)) rfl e0) z08.e (FF (by decide) (by decide)) rfl).e z08.e (kZ (by decide)) rfl).e rfl rfl).e;rw[hb];show(Res.ok (Z0 (cut (xs.map .int) (Z9 3) (Z9 (3+c0/3%4))))>>=λd=>Res.ok (gN d _,d))=_;rw[Ls];have:imms ((cut xs (Z9 3) (Z9 (3+c0/3%4))).map .int)=true:=nJ (λ_=>rfl) _;show Res.ok ((if imms ((cut xs (Z9 3) (Z9 (3+c0/3%4))).map .int)=Z7 then G.fr else _),_)=_;rw[xh this]
 generalize cut xs (Z9 3) (Z9 (3+c0/3%4))=cs at l3 ev;refine zdw hκ hφ (sl (Same.upd h4) (.no tl)) ev (λb=>b=p4) (λb hb=>⟨.lst [],by rw[hb];exact aO,λz=>z⟩) (λj σ' H'=>Same Hb H'/\∃(ths:List P) (vs:List V) (o5:Option V),ths.length=j/\(∀t∈ths,mU F3 t)/\H' p4=Z9 (.lst vs)/\Reps Z.K H' NoB vs (ths.map pk)/\σ'=[Z9 v0,Z9 (.bl b1),Z9 (.bl b2),Z9 v3,Z9 (.ref p4),o5,Z8,Z8,Z8,Z8,Z8,Z8,Z8,Z8,Z8]) (λH1 s1=>⟨(Same.upd h4).trans s1,[],[],Z8,rfl,nofun,s1 _ _ aO,rfl,rfl⟩) ?_ ?_
 .rintro k y d σ' H' H2 D2 hd ⟨s',ths,vs,o5,hl,hw,hp,rv,rfl⟩ s2 ry mS nx
  rw[ba]at hd;obtain⟨c,hc,rfl⟩:=bu.mp hd;have Yw:=(br.mp hc).1;refine tQ ry (by simp) λw gG=>?_;obtain rfl:w=.int c:=gG;have M7:=s2 _ _ hp;refine bE (qS (aL rfl ⟨.inl ⟨rfl,_,SqL.of M7⟩,dZ f7 (aH (zu (ns:=F3) (Sl.so (sl (s'.trans s2) (.no tl))) (hκ▸fZ (dP fM (dP fM (dP fM dU)))) λpn H3 s3 en=>?_))⟩));refine aH (dZ f5 (aH (aL rfl (aH (aL rfl (bD ⟨c,b2,rfl,λH5 p a m np s5 d5=>?_⟩))))));refine aH (aL rfl (bD ⟨F3,pn,p,a,m,b1,rfl,⟨s5 _ _ en,W6,d5,(λz=>by rw[<-z,en]at np;cases np),af 3,W7,by decide⟩,λH6 u q6 a6 c6 d6 o6 r6=>?_⟩));have M8:=c6.same (s3.none np) (s3.trans s5);have M9:=M8 _ _ M7;refine⟨p4,vs,u,rfl,rfl,M9,by rw[rv.length,ae,bt];omega,bR Z ?_⟩;have GK:=s2.trans M8;refine nx _ _ ⟨λb o e=>?_,ths++[q6],vs++[u],_,by rw[cg,hl];rfl,λt ht=>?_,aO,?_,rfl⟩ (λb o hb e=>by rw[aA hb];exact GK b o e)
  .rw[aA λz=>by rw[z,h4]at e;cases e];exact GK _ _ (s' _ _ e)
  .rcases cr.mp ht with ht|ht
   .exact hw t ht
   .rw[ak.mp ht];exact o6
  .rw[bv];exact Reps.mP M9 ((rv.same GK λ_ z=>z).append (Reps.cons r6 rfl))
 .rintro σ' H' ⟨s',ths,vs,o5,hl,hw,hp,rv,rfl⟩
  rw[ae]at hl;exact q H' ths vs o5 s' hp rv (by omega) hw
end
theorem GL (ha:0<=a)(hb:0<=b)(h:0<c)(k:a<=1000)(lb:b<=1000)(lc:c<=1000):∃ns:List Nat,fX [.int a,.int b,.int c]=.ok (ns.map λ(i:Nat)=>.int i)/\∀i∈ns,(i:Int)<b:=by
 refine⟨(d8 (if a<b then((b-a-1)/c+1).toNat else 0)).map λ(i:Nat)=>(a+(i:Int)*c).toNat,?_,λi f=>?_⟩
 .show(if -(aQ:Int)<=a/\b<=aQ/\a<=aQ/\ -(aQ:Int)<=b/\0<c/\c<=aQ then _ else _)=_;rw[xh (by unfold aQ;omega),dg];refine congrArg Res.ok (i9 λi _=>?_);show ZZ (a+i*c)=.int (((a+i*c).toNat:Nat):Int);have:0<=(i:Int)*c:=Int.mul_nonneg (by omega) (by omega);rw[Int.toNat_of_nonneg (by omega)]
 .obtain⟨j,e,rfl⟩:=au.mp f;rw[lj]at e;split at e
  .rename_i g;have d:(j:Int)<=(b-a-1)/c:=by omega
   have l:(j:Int)*c<=(b-a-1)/c*c:=Int.mul_le_mul_of_nonneg_right d (by omega);have m:(b-a-1)/c*c<=b-a-1:=Int.ediv_mul_le _ (by omega);omega
  .omega
section
variable {Z:Wc}{Ha H:Hp}{D0:Ends}{y z:Bool}{ths:List P}{ss:List Int}{bs:Bs}{v0 v3 v4 v7 v8 v9:V}{b1 b2:Bool}{o5:Option V}{base:Int}
theorem zpl (hκ:Z.Κ=[])(hφ:Z.Φ=Φl)(f0:Z.fn[0]?=Z9 (spTo Z.K))(f1:Z.fn[1]?=Z9 (spRd Z.K))(f2:Z.fn[2]?=Z9 (spEn Z.K))(f3:Z.fn[3]?=Z9 (spEn Z.K))(f:Lw Z.K Ha y z ths ss bs v3 v4 v7 v8 v9)(q:∀H',Same Ha H'->D0.rt (.bl Z7) H'):
  wS Z L65.F6 D0 (Br v0 b1 b2 v3 v4 o5 base v7 v8 v9 Z8 Z8 Z8 Z8 Z8) Ha:=by
 have lg:∀n,(getB bs n).length<=20:=λn=>by have:=f.lg n;omega
 refine bN (dZ f1 (aH (aL rfl (aH (aL rfl (aH (aL rfl (bD ⟨_,_,_,_,_,v3,v7,v8,rfl,GH f (Same.refl Ha) f.r7 lg,λH1 u s1 r1=>?_⟩))))))));rw[vX f.th f.ls]at r1;obtain⟨p10,vs10,rfl,np,W9,r10⟩:=zt r1;refine bE (eW (M4 (K0 (dZ f0 (aH (aL rfl (aH (aL rfl (aH (aL rfl (aH (aL rfl (aH (bX hκ hφ (.no (.no (.no (.no (.no (.no (.fP (.no (.no (.no (.no (.no (.no (.no (.no .nil))))))))))))))) (dC (z02 rfl) z08.e (kZ (by decide)) rfl).e λvm H2 s2 rm=>aH (aL rfl (bD ?_))))))))))))))));obtain rfl:vm=.int (base%4):=rm;have qR:=s1.trans s2;refine⟨_,_,_,_,_,_,_,v3,v7,v4,.ref p10,v8,rfl,MZ f qR (f.r7.same qR λ_ z=>z) lg (r1.same s2 λ_ _=>trivial) (i6 _ (by decide)),λH3 s3=>⟨Z7,rfl,bR Z ?_⟩⟩;have Bu:=s2.trans s3;have tZ:∀{H':Hp},Same H3 H'->Rep Z.K H' AnyB (.ref p10) (.list ((run5 (getB bs) ths (rwsO y z)).map rdD)):=λ{H'} s'=>r1.same (Bu.trans s') λ_ _=>trivial;obtain⟨ll,_⟩:=M0 f (getB bs);have len:∀{ρ:Rho},ρ[10]?=Z9 (Z9 (.od,.list ((run5 (getB bs) ths (rwsO y z)).map rdD)))->Vv [] Φl (.bi "len" (.cons (.var 10) .nil)) ρ (.int ((run5 (getB bs) ths (rwsO y z)).length:Nat)):=λ{ρ} e=>iJ (z00 (z02 e) z09) (by show Res.ok (ZZ (((run5 (getB bs) ths (rwsO y z)).map rdD).length:Nat))=_;rw[ae]) rfl;generalize hL:run5 (getB bs) ths (rwsO y z)=L at tZ len ll r10;refine bN (bX hκ hφ (ρ:=[Z8,Z8,Z8,Z8,Z8,Z8,Z8,Z8,Z8,Z8,Z9 (.od,.list (L.map rdD)),Z8,Z8,Z8,Z8]) (.no (.no (.no (.no (.no (.no (.no (.no (.no (.no (.da (tZ (Same.refl H3)) (.no (.no (.no (.no .nil))))))))))))))) (d:=.int (1+L.length/4)) (dC (d:=.int (1+L.length/4)) z08.e (dC (len rfl).e z08.e (FF (by decide) (by decide)) rfl).e rfl rfl).e λv11 H4 s4 W'=>?_);obtain rfl:v11=.int (1+L.length/4):=W';have GN:=(s1.trans Bu).trans s4;have m1:base%(1+L.length/4)<1+L.length/4:=ku _ (by omega);obtain⟨ns,en,hn⟩:=GL (a:=base%(1+L.length/4)) (b:=L.length) (c:=1+L.length/4) (i6 _ (by omega)) (by omega) (by omega) (by omega) (by omega) (by omega);refine bE (z89 hκ hφ (ρ:=[Z8,Z8,Z8,Z8,Z8,Z8,Z9 (.od,.int base),Z8,Z8,Z8,Z9 (.od,.list (L.map rdD)),Z9 (.od,.int (1+L.length/4)),Z8,Z8,Z8]) (.no (.no (.no (.no (.no (.no (.fP (.no (.no (.no (.da (tZ s4) (.fP (.no (.no (.no .nil))))))))))))))) (E3 (z00 (dC (z02 rfl) (z02 rfl) (kZ (by omega)) rfl).e (z00 (len rfl).e (z00 (z02 rfl) z09))) en) (λk σ' H'=>Same H4 H'/\∃iZ gA gB,σ'=Br v0 b1 b2 v3 v4 o5 base v7 v8 v9 (Z9 (.ref p10)) (Z9 (.int (1+L.length/4))) iZ gA gB) (λH5 s5=>⟨s5,Z8,Z8,Z8,rfl⟩) ?_ ?_)
 .rintro k yv d σ' H' H5 D2 hd ⟨s',iZ,gA,gB,rfl⟩ s5 ry mS nx
  rw[ba]at hd;obtain⟨i,hi,rfl⟩:=bu.mp hd;have Yx:=hn i (bn hi);refine tQ ry (by simp) λw gG=>?_;obtain rfl:w=.int i:=gG;have GO:=s'.trans s5;have Bt:=s4.trans GO;refine ztj hκ hφ f0 f1 f2 f3 f (GN.trans GO) ((Bu.trans Bt) _ _ W9) (hL▸r10.same (Bu.trans Bt) λ_ _=>trivial) (by grind) λH6 gA gB s6=>nx _ _ ⟨GO.trans s6,_,_,_,rfl⟩ (s5.trans s6)
 .rintro σ' H' ⟨s',iZ,gA,gB,rfl⟩
  exact fQ (WL (go_same f (GN.trans s') rfl rfl rfl rfl λH6 s6=>q H6 (GN.trans (s'.trans s6))))
end
theorem Xa (a:List Int):aggD "sum" Z7 (a.map .int)=.ok (.int a.sum):=by show Res.eR ((fW (a.map .int)).map ZZ)=_;rw[Lm];rfl
theorem GP:Z2 "wopen"=true:=by decide+kernel
theorem M':Z2 "wrude"=true:=by decide+kernel
theorem Xb {K:Z5}(b:H q=Z8)(r:Rep K H AnyB v d):Rep K H (neB [q]) v d:=(Rep.there _ r).weak λa z=>by
 cases a with
 |none=>trivial
 |some a=>intro w;rw[ak.mp w]at z;exact z.2 b
section
variable {Z:Wc}{H:Hp}{D0:Ends}{xs:List Int}{v0:V}{B:Ad->Prop}{b1 b2:Bool}{v3:V}{y z:Bool}{o4 o5 o6 o7 o8 o9 nR nT iZ gA gB:Option V}
abbrev cB (v0:V)(b1 b2:Bool)(v3:V)(o4 o5 o6 o7 o8 o9 nR nT iZ gA gB:Option V):L2.St:=[Z9 v0,Z9 (.bl b1),Z9 (.bl b2),Z9 v3,o4,o5,o6,o7,o8,o9,nR,nT,iZ,gA,gB]
theorem Na (r0:Rep Z.K H B v0 (.list (xs.map .int)))(r3:Rep Z.K H AnyB v3 (rwsD y z)):Sl Z.K H (cB v0 b1 b2 v3 o4 o5 o6 o7 o8 o9 nR nT iZ gA gB) [Z9 (.od,.list (xs.map .int)),Z8,Z8,Z9 (.od,rwsD y z),Z8,Z8,Z8,Z8,Z8,Z8,Z8,Z8,Z8,Z8,Z8]:=.da r0 (.no (.no (.da r3 (.no (.no (.no (.no (.no (.no (.no (.no (.no (.no (.no .nil))))))))))))))
theorem Nb (hκ:Z.Κ=[])(hφ:Z.Φ=Φl)(f5:Z.fn[5]?=Z9 (spDn Z.K))(hk:0<=k)(r0:Rep Z.K H B v0 (.list (xs.map .int)))(r3:Rep Z.K H AnyB v3 (rwsD y z))(q:∀H' p a m,H p=Z8->Same H H'->Dw H' p a m->Q (.ref p) H'):wE Z (L65.tP k) (cB v0 b1 b2 v3 o4 o5 o6 o7 o8 o9 nR nT iZ gA gB) H Q:=by obtain⟨c,ec⟩:=zo xs hk;refine dZ f5 (aH (bX hκ hφ (Na r0 r3) (fN (z00 (z02 rfl) (z00 z08.e z09)) rfl ec) λvc H1 s1 rc=>?_));obtain rfl:vc=.int c:=rc;exact aH (aL rfl (bD ⟨c,b2,rfl,λH2 p a m np s2 d2=>q H2 p a m (s1.none np) (s1.trans s2) d2⟩))
theorem zra (c:Z.Κ=[])(d:Z.Φ=Φl)(n:Z.fn[5]?=Z9 (spDn Z.K))(t:Z.fn[6]?=Z9 (spBo Z.K))(hk:0<=k)(u:ixD (rwsD y z) (.int j)=.ok (opD o))(i:Rep Z.K H B v0 (.list (xs.map .int)))(r3:Rep Z.K H AnyB v3 (rwsD y z))
  (q:∀f l ws (b:List Ru),H l=Z8->Same H f->f l=Z9 (.lst ws)->Reps Z.K f NoB ws (b.map ruD)->b.length<=4->(∀r∈b,∀s∈b,agR r s=Z6)->Q (.ref l) f):wE Z (.cP 6 (L65.a3 (L65.tP k) (.aY (.ix (.var 3) (.int j))) (.raw 1))) (cB v0 b1 b2 v3 o4 o5 o6 o7 o8 o9 nR nT iZ gA gB) H Q:=by
 refine dZ t (aH (Nb c d n hk i r3 λI p a m v g w=>aH (bX c d (Na (i.same g λ_ z=>z) (r3.same g λ_ z=>z)) (iM (z02 rfl) z08.e u) λx J h rr=>aH (aL rfl (bD ?_)))));refine⟨o,p,a,m,b1,x,rfl,h _ _ w,Rep.aT _ (FP o) rr,λA l ws b C D E r3 F G=>?_⟩;exact q A l ws b ((g.trans h).none C) (D.same v (g.trans h)) E r3 F G
theorem zis {c:List P}(o:Z.Κ=[])(s:Z.Φ=Φl)(f0:Z.fn[0]?=Z9 (spTo Z.K))(f1:Z.fn[1]?=Z9 (spRd Z.K))(U:Z.fn[2]?=Z9 (spEn Z.K))(f3:Z.fn[3]?=Z9 (spEn Z.K))(f4:Z.fn[4]?=Z9 (spDd Z.K))(f5:Z.fn[5]?=Z9 (spDn Z.K))
  (r0:Rep Z.K H B v0 (.list (xs.map .int))) (r3:Rep Z.K H AnyB v3 (rwsD y z)) (r4:Rep Z.K H AnyB v4 (.list (c.map pk))) (r7:Rep Z.K H AnyB v7 (.dict (bsD bs))) (th:∀t∈c,mU F3 t) (tl:c.length<=3) (nd:(bs.map (·.1)).Nodup) (lb:bs.length<=2) (lg:∀n,(getB bs n).length<=4) (co:∀n,Cons biR sdR (getB bs n)) (wo:(bs.any λe=>decide (e.1="wopen"))=Z7) (q:∀V,Same H V->D0.rt (.bl Z7) V):
  wS Z (.seq (.asg 8 (.cP 4 (L65.a2 (.raw 4) (L65.tP 9)))) (.seq (.asg 9 (.lst (L65.a3 (.mO (.raw 3)) (.cP 2 (L65.a2 (.raw 7) (.tup (L65.a2 (.lst .nil) (.lst .nil))))) (.mO (.raw 8))))) L65.F6)) D0 (cB v0 b1 b2 v3 (Z9 v4) o5 (Z9 (.int base)) (Z9 v7) Z8 Z8 Z8 Z8 Z8 Z8 Z8) H:=by
 have t3:=λt ht=>by have:=(th t ht).sub.length_le;rw[ae]at this;exact this
 refine bN (dZ f4 (aH (aL rfl (aH (Nb o s f5 (by decide) r0 r3 λH1 p a m np s1 d1=>bD ⟨c,p,a,m,v4,rfl,d1,(Xb np r4).same s1 λ_ z=>z,by omega,t3,λH2 l ws ss nl c2 e2 ls F=>?_⟩)))));have G:=c2.same np s1;have r8:Rep Z.K H2 AnyB (.ref l) (.list ((kJ c ss).map pk)):=⟨l,ws,rfl,.inl ⟨e2,trivial⟩,by unfold kJ;rw[dg];exact F.weak λ_ z=>z.elim⟩;have I:=r3.same G λ_ z=>z;have J:=rO.mpr λd hd=>by obtain⟨r,hr,rfl⟩:=au.mp hd;exact MP y z r hr
 refine bN (fH (aH (Bp (λR h=>aL rfl h) I J λu i s3 q3=>aH (dZ U (aH (aL rfl (aH (vJ (aH (fH (bD ⟨be _,λb L=>aH (fH (bD ⟨be _,λf M=>bD ⟨by rw[bt];show 2<=_;decide,λpt N=>bD ?_⟩⟩))⟩)))))))))));have ua:Same i (upd i b (.lst [])):=Same.upd L;have ub:Same (upd i b (.lst [])) (upd (upd i b (.lst [])) f (.lst [])):=Same.upd M;have O:Same (upd (upd i b (.lst [])) f (.lst [])) (upd (upd (upd i b (.lst [])) f (.lst [])) pt (.tup [.ref b,.ref f])):=Same.upd N;have ea:=O _ _ (ub _ _ aO);have eb:=O _ _ aO;have et:upd (upd (upd i b (.lst [])) f (.lst [])) pt (.tup [.ref b,.ref f]) pt=Z9 (.tup [.ref b,.ref f]):=aO;have j:=ua.trans (ub.trans O);generalize upd (upd (upd i b (.lst [])) f (.lst [])) pt (.tup [.ref b,.ref f])=H4 at ea eb et j ⊢;have v:=s3.trans j;have Q:=G.trans v;refine⟨bs,([],[]),v7,.ref pt,rfl,⟨r7.same Q λ_ z=>z,⟨pt,_,rfl,bF.of et,⟨.ref b,_,rfl,⟨b,[],rfl,.inl ⟨ea,trivial⟩,rfl⟩,⟨.ref f,_,rfl,⟨f,[],rfl,.inl ⟨eb,trivial⟩,rfl⟩,rfl⟩⟩⟩,nd,by omega,by decide,λn=>by have:=lg n;omega⟩,λH5 w s5 q7=>?_⟩;have x:=v.trans s5;refine aH (Bp (λR h=>aL rfl h) (r8.same x λ_ z=>z) (nJ cA _) λA E s6 q8=>bD ⟨by rw[bt];show 3<=_;decide,λC S=>?_⟩);have T:Same E (upd E C (.lst [u,w,A])):=Same.upd S;have e9:upd E C (.lst [u,w,A]) C=Z9 (.lst [u,w,A]):=aO;generalize upd E C (.lst [u,w,A])=H7 at T e9 ⊢;have k:=s6.trans T;have D:=x.trans k;have g:=G.trans D;refine zpl o s f0 f1 U f3 ⟨r3.same g λ_ z=>z,r4.same g λ_ z=>z,r7.same g λ_ z=>z,r8.same D λ_ z=>z,⟨C,_,rfl,.inl ⟨e9,trivial⟩,⟨u,_,rfl,q3.same (j.trans (s5.trans k)) λ_ _=>trivial,⟨w,_,rfl,q7.same k λ_ _=>trivial,⟨A,_,rfl,q8.same T λ_ _=>trivial,rfl⟩⟩⟩⟩,th,tl,ls,nd,lb,lg,co,wo⟩ λH8 s8=>q H8 (g.trans s8)
theorem zsg (i:Z.Κ=[])(j:Z.Φ=Φl)(f0:Z.fn[0]?=Z9 (spTo Z.K))(f1:Z.fn[1]?=Z9 (spRd Z.K))(f2:Z.fn[2]?=Z9 (spEn Z.K))(f3:Z.fn[3]?=Z9 (spEn Z.K))(f4:Z.fn[4]?=Z9 (spDd Z.K))(W:Z.fn[5]?=Z9 (spDn Z.K))(f6:Z.fn[6]?=Z9 (spBo Z.K))(f7:Z.fn[7]?=Z9 (spPc Z.K))(f8:Z.fn[8]?=Z9 (spDr Z.K))(f9:Z.fn[9]?=Z9 (spD Z.K 1 zfm))(hx:xs.length<=63)(r0:Rep Z.K H B v0 (.list (xs.map .int)))(q:∀X,Same H X->D0.rt (.bl Z7) X):
  wS Z L65.lw D0 [Z9 v0,Z8,Z8,Z8,Z8,Z8,Z8,Z8,Z8,Z8,Z8,Z8,Z8,Z8,Z8] H:=by
 have no:∀{X:Hp} {o1 o2 o3 o4 o5 o6 o7 o8 o9 nR nT iZ gA gB:Option V},Same H X->Sl Z.K X [Z9 v0,o1,o2,o3,o4,o5,o6,o7,o8,o9,nR,nT,iZ,gA,gB] [Z9 (.od,.list (xs.map .int)),Z8,Z8,Z8,Z8,Z8,Z8,Z8,Z8,Z8,Z8,Z8,Z8,Z8,Z8]:=λ{X o1 o2 o3 o4 o5 o6 o7 o8 o9 nR nT iZ gA gB} s=>.da (r0.same s λ_ z=>z) (.no (.no (.no (.no (.no (.no (.no (.no (.no (.no (.no (.no (.no (.no .nil))))))))))))));obtain⟨c0,e0⟩:=zo xs (k:=0) (by decide);obtain⟨c1,e1⟩:=zo xs (k:=1) (by decide);obtain⟨c2,e2⟩:=zo xs (k:=2) (by decide);refine bN (bX i j (no (Same.refl H)) (d:=.bool (decide (0<c0%3))) (z0m (dC (fN (z00 (z02 rfl) (z00 z08.e z09)) rfl e0) z08.e (kZ (by decide)) rfl).e z08.e rfl).e λv1 H1 s1 q1=>?_);obtain rfl:v1=.bl (decide (0<c0%3)):=q1;refine bN (bX i j (no s1) (d:=.bool (decide (c2%2=1))) (z0m (dC (fN (z00 (z02 rfl) (z00 z08.e z09)) rfl e2) z08.e (kZ (by decide)) rfl).e z08.e (by exact congrArg Res.ok (yJ _ _))).e λv2 H2 s2 q2=>?_);obtain rfl:v2=.bl (decide (c2%2=1)):=q2;generalize decide (0<c0%3)=b1;generalize decide (c2%2=1)=b2;have P:=s1.trans s2;refine bN (Uh f9 (aH (dZ f8 (aH (dZ W (aH (bX i j (no P) (fN (z00 (z02 rfl) (z00 z08.e z09)) rfl e1) λvc H3 s3 rc=>?_)))))));obtain rfl:vc=.int c1:=rc;refine aH (aL rfl (bD ⟨c1,b2,rfl,λH4 p a m np s4 d4=>?_⟩));refine aH (fO λH5 s5=>bD ⟨p,a,m,4,rfl,s5 _ _ d4,by decide,by decide,λH6 r a6 g1 g2 c6 d6=>?_⟩);obtain⟨y,z,g,er⟩:=Wr g1 g2;refine bD ⟨AnyB,[.int r],(g,rwsD y z),rfl,⟨_,_,rfl,rfl,rfl⟩,er,λv3 H7 s7 r3=>?_⟩;have Y:=(c6.same ((P.trans s3).none np) ((P.trans s3).trans (s4.trans s5))).trans s7;refine bN (fH (bD ⟨be _,λp4 h4=>?_⟩));refine bE (zqz i j W f7 (r0.same Y λ_ z=>z) h4 λH8 ths vs o5 s8 Xc rv tl ht=>?_);have r4:Rep Z.K H8 AnyB (.ref p4) (.list (ths.map pk)):=⟨p4,vs,rfl,.inl ⟨Xc,trivial⟩,rv.weak λ_ z=>z.elim⟩;have Nc:=Y.trans s8;refine bN (bX i j (no Nc) (d:=.int (cut xs Z8 (Z9 63)).sum) (sW (tK (z02 rfl) xV (AA z08.e) (UC _ _ _)) rfl (Xa _) rfl).e λv6 H9 s9 q6=>?_);obtain rfl:v6=.int (cut xs Z8 (Z9 63)).sum:=q6;generalize (cut xs Z8 (Z9 63)).sum=base;have Q:=Nc.trans s9;have I:=r0.same Q λ_ z=>z;have J:=(r3.weak λ_ _=>trivial).same (s8.trans s9) λ_ z=>z;have Nd:=r4.same s9 λ_ z=>z;refine bN ?_;intro u h7;refine Fo GP λBi tR=>?_;have C:=(Same.upd h7).trans tR;refine zra i j W f6 (by decide) (by cases y<;>cases z<;>rfl) (I.same C λ_ z=>z) (J.same C λ_ z=>z) λL l ws A Yy tT R Xd Nf GQ=>?_;have e7:=tT _ _ (tR _ _ aO);refine⟨e7,[(.inr "wopen",.ref l)],rfl,by show 1<=15;decide,?_⟩;rw[show uK [] [((.inr "wopen":Key),V.ref l)]=[(.inr "wopen",.ref l)]from rfl];have N:Same H9 (upd L u (.dK [(.inr "wopen",.ref l)])):=λx o e=>by rw[aA λw=>by rw[w,h7]at e;cases e];exact(C.trans tT) _ _ e
 have M:upd L u (.dK [(.inr "wopen",.ref l)]) u=Z9 (.dK [(.inr "wopen",.ref l)]):=aO;have ra:Rep Z.K (upd L u (.dK [(.inr "wopen",.ref l)])) AnyB (.ref l) (.list (A.map ruD)):=⟨l,ws,rfl,.inl ⟨by rw[aA (λw=>by rw[w,e7]at R;cases R)];exact R,trivial⟩,Reps.gP (λb o e f=>by rw[aA λw=>by rw[w,e7]at e;cases e;exact f];exact e) _ (nJ hW _) Xd⟩;generalize upd L u (.dK [(.inr "wopen",.ref l)])=W0 at N M ra ⊢;have Ng:=FO GQ;have cn:Cons biR sdR ([]:List Ru):=FO λ_ h=>by cases h
 refine bE (eW (hJ i j (.no (.no (.no (.no (.no (.no (.fP (.no (.no (.no (.no (.no (.no (.no (.no .nil))))))))))))))) (b:=decide (0<base%3)) (aU (z0m (dC (z02 rfl) z08.e (kZ (by decide)) rfl).e z08.e rfl).e rfl) λM5 D=>?_));have c:=N.trans D;have O:=ra.same D λ_ z=>z;by_cases zb:0<base%3
 .rw[xh (xp zb)];refine bE (Bg (zra (o:=o2 z) i j W f6 (by decide) (by cases y<;>cases z<;>rfl) (I.same c λ_ z=>z) (J.same c λ_ z=>z) λM6 lc wt rt Yz S Xe Xf Xg GR=>aL rfl (Fo M' λE F=>.inl ⟨u,_,rfl,.inl ⟨_,.inr "wrude",F _ _ (S _ _ (D _ _ M)),rfl,by rw[bt];show 1<_;decide,rfl⟩,bR Z ?_⟩)));rw[show putK [((.inr "wopen":Key),V.ref l)] (.inr "wrude") (.ref lc)=[(.inr "wopen",.ref l),(.inr "wrude",.ref lc)]from by unfold putK;rw[xk (by simp;decide)];rfl];have G:=S.trans F;have t:Same H9 (upd E u (.dK [(.inr "wopen",.ref l),(.inr "wrude",.ref lc)])):=λx o e=>by rw[aA λw=>by rw[w,h7]at e;cases e];exact G _ _ (c _ _ e)
  have rk:∀{v:V} {A:List Ru},Rep Z.K E AnyB v (.list (A.map ruD))->Rep Z.K (upd E u (.dK [(.inr "wopen",.ref l),(.inr "wrude",.ref lc)])) AnyB v (.list (A.map ruD)):=λ{v A} r=>Gx (F _ _ (S _ _ (D _ _ M))) (λa o ne e=>by rw[aA ne];exact e) r;have r7:Rep Z.K (upd E u (.dK [(.inr "wopen",.ref l),(.inr "wrude",.ref lc)])) AnyB (.ref u) (.dict (bsD [("wopen",A),("wrude",rt)])):=⟨u,_,rfl,aO,trivial,.inr "wopen",.ref l,_,rfl,rfl,GP,rk (O.same G λ_ z=>z),.inr "wrude",.ref lc,_,rfl,rfl,M',rk ⟨lc,wt,rfl,.inl ⟨F _ _ Xe,trivial⟩,Xf.same F λ_ z=>z.elim⟩,rfl⟩;generalize upd E u (.dK [(.inr "wopen",.ref l),(.inr "wrude",.ref lc)])=YA at t r7
  have gb:∀n,getB [("wopen",A),("wrude",rt)] n=A\/getB [("wopen",A),("wrude",rt)] n=rt\/getB [("wopen",A),("wrude",rt)] n=[]:=λn=>by
   unfold getB;rw[dt];split
   .exact .inl rfl
   rw[dt];split
   .exact .inr (.inl rfl)
   .exact .inr (.inr rfl)
  exact zis i j f0 f1 f2 f3 f4 W (I.same t λ_ z=>z) (J.same t λ_ z=>z) (Nd.same t λ_ z=>z) r7 ht tl (by show(["wopen","wrude"]:List Str).Nodup;decide) (af 2) (λn=>by rcases gb n with e|e|e<;>rw[e]<;>first|exact Nf|exact Xg|exact be _) (λn=>by rcases gb n with e|e|e<;>rw[e]<;>first|exact Ng|exact FO GR|exact cn) rfl λT U=>q T (Q.trans (t.trans U))
 .rw[xk (by rw[xq zb];decide)];refine bR Z ?_;have r7:Rep Z.K M5 AnyB (.ref u) (.dict (bsD [("wopen",A)])):=⟨u,_,rfl,D _ _ M,trivial,.inr "wopen",.ref l,_,rfl,rfl,GP,O,rfl⟩
  have gb:∀n,getB [("wopen",A)] n=A\/getB [("wopen",A)] n=[]:=λn=>by
   unfold getB;rw[dt];split
   .exact .inl rfl
   .exact .inr rfl
  exact zis i j f0 f1 f2 f3 f4 W (I.same c λ_ z=>z) (J.same c λ_ z=>z) (Nd.same c λ_ z=>z) r7 ht tl (by show(["wopen"]:List Str).Nodup;decide) (by show 1<=2;decide) (λn=>by rcases gb n with e|e<;>rw[e]<;>first|exact Nf|exact be _) (λn=>by rcases gb n with e|e<;>rw[e]<;>first|exact Ng|exact cn) rfl λT U=>q T (Q.trans (c.trans U))
end
def top (i:Nat):Stmt:=PySem.Challenge.pw_likebook_k65_whole_claims_settled.main.body.getD i (.Pass ⟨0,0,0,0⟩)
def dD:Nat->S
 |0=>.nil
 |n+1=>.seq .bad (dD n)
abbrev FREE:List Str:=["isinstance","str","len","range","list","min","max","ValueError","int","bool","enumerate","dict","sorted","tuple","abs","any","all","zip","repr","sum"]
abbrev Rz:List aP:=[
 ⟨"check_side",top 7,["side"],["side"],["isinstance","str"],[],yW,pK,.n,[]⟩,
 ⟨"other_side",top 8,["side"],["side"],[],[0],yX,kA,.n,[]⟩,
 ⟨"side_of",top 9,["case","side"],["case","side"],[],[0],yY,hE,.n,[]⟩,
 ⟨"greatest",top 11,["pairs","found","name","amount"],["pairs"],["tuple","sorted","max"],[],yZ,pL,.n,[]⟩,
 ⟨"degree",top 12,["one","name"],["one","name"],["dict"],[],y3,kB,.n,[]⟩,
 ⟨"over",top 14,["one","other","held"],["one","other"],["dict"],[],y4,kC,.n,[]⟩,
 ⟨"within",top 13,["one","other"],["one","other"],[],[5],y6,tE,.n,[]⟩,
 ⟨"ruling",top 16,["case","side","reason"],["case","side","reason"],[],[6,2],y7,tF,.n,[]⟩,
 ⟨"opposed_of",top 17,["one"],["one"],[],[2,1],zc,mQ,.n,[]⟩,
 ⟨"apart",top 19,["one","case","side","less","more"],["one","case"],[],[5,8,2,1],zd,tG,.n,[]⟩,
 ⟨"binds",top 18,["one","case"],["one","case"],[],[9],K2,vK,.n,[]⟩,
 ⟨"binding",top 21,["book","case","k","one"],["book","case"],["enumerate"],[10],Fp,Fq,.n,[]⟩,
 ⟨"fullest",top 22,["case","side"],["case","side"],[],[7,2],K3,Fs,.n,[]⟩,
 ⟨"of_facts",top 24,["act","thing","facts"],["act","thing"],["tuple"],[],K4,tH,.n,[]⟩,
 ⟨"holds",top 25,["saying","thing","words","kind"],["saying","thing","words"],[],[],K5,lB 0,.n,[]⟩,
 ⟨"holds",top 25,["saying","thing","words","kind"],["saying","thing","words"],[],[14,4],AM,lB 1,.n,[]⟩,
 ⟨"holds",top 25,["saying","thing","words","kind"],["saying","thing","words"],[],[15,4],AM,lB 2,.n,[]⟩,
 ⟨"holds",top 25,["saying","thing","words","kind"],["saying","thing","words"],[],[16,4],AM,lB 3,.n,[]⟩,
 ⟨"so",top 26,["asking","things","holding","kind"],["asking","things","holding"],[],[],K6,nI 0,.n,[]⟩,
 ⟨"so",top 26,["asking","things","holding","kind"],["asking","things","holding"],["all","zip","any"],[18,17],AN,nI 1,.n,[]⟩,
 ⟨"so",top 26,["asking","things","holding","kind"],["asking","things","holding"],["all","zip","any"],[19,17],AN,nI 2,.n,[]⟩,
 ⟨"so",top 26,["asking","things","holding","kind"],["asking","things","holding"],["all","zip","any"],[20,17],AN,nI 3,.n,[]⟩,
 ⟨"pack_of",top 27,["names","thing","words"],["names","thing","words"],[],[3,4],K7,Ft,.n,[]⟩,
 ⟨"case_of",top 28,["row","thing","words"],["row","thing","words"],[],[22],K8,Fv,.n,[]⟩,
 ⟨"with_word",top 33,["row","known","reading","holding","thing","words","more"],["row","known","reading"],["zip"],[17],K9,Fw,.n,[]⟩,
 ⟨"open_uses",top 31,["act","many"],["act","many"],["len"],[],K',AO,.n,[]⟩,
 ⟨"asking_of",top 37,["act","claim","row"],["act","claim"],[],[],La,zi,.n,[]⟩,
 ⟨"_law_cell_at",top 41,["_law_script","_law_k"],["_law_script","_law_k"],["len"],[],Lb,Fx,.n,[]⟩,
 ⟨"_law_within",top 46,["_law_one","_law_two","_law_name","_law_count_here"],["_law_one","_law_two"],[],[],Lc,AQ,.n,[]⟩,
 ⟨"_law_against",top 47,["_law_one","_law_two","_law_at"],["_law_one","_law_two"],["int"],[28],Ld,Fy,.n,[]⟩,
 ⟨"_law_rows",top 49,["_law_cell","_law_rows_here","_law_some","_law_every"],["_law_cell"],[],[],Le,zfm,.n,[]⟩,
 ⟨"_law_degree",top 50,["_law_thing","_law_name","_law_one","_law_count_here"],["_law_thing","_law_name"],[],[],Lf,vL,.n,[]⟩,
 ⟨"_law_of_thing",top 51,["_law_saying","_law_thing","_law_words","_law_truths"],["_law_saying","_law_thing","_law_words"],[],[],Lg,kE 0,.n,[]⟩,
 ⟨"_law_of_thing",top 51,["_law_saying","_law_thing","_law_words","_law_truths"],["_law_saying","_law_thing","_law_words"],[],[32,31],AR,kE 1,.n,[]⟩,
 ⟨"_law_of_thing",top 51,["_law_saying","_law_thing","_law_words","_law_truths"],["_law_saying","_law_thing","_law_words"],[],[33,31],AR,kE 2,.n,[]⟩,
 ⟨"_law_of_thing",top 51,["_law_saying","_law_thing","_law_words","_law_truths"],["_law_saying","_law_thing","_law_words"],[],[34,31],AR,kE 3,.n,[]⟩,
 ⟨"_law_so",top 52,["_law_asking","_law_things","_law_holding","_law_truths"],["_law_asking","_law_things","_law_holding"],[],[],Lh,hF 0,.n,[]⟩,
 ⟨"_law_so",top 52,["_law_asking","_law_things","_law_holding","_law_truths"],["_law_asking","_law_things","_law_holding"],["zip"],[36,35],AS,hF 1,.n,[]⟩,
 ⟨"_law_so",top 52,["_law_asking","_law_things","_law_holding","_law_truths"],["_law_asking","_law_things","_law_holding"],["zip"],[37,35],AS,hF 2,.n,[]⟩,
 ⟨"_law_so",top 52,["_law_asking","_law_things","_law_holding","_law_truths"],["_law_asking","_law_things","_law_holding"],["zip"],[38,35],AS,hF 3,.n,[]⟩,
 ⟨"_law_due",top 53,["_law_asking","_law_things","_law_found","_law_yes","_law_no"],["_law_asking","_law_things","_law_found"],[],[39],AU,Fz,.n,[]⟩,
 ⟨"continued",top 36,["reading","entries","number","names","holding"],["reading","entries","number","names"],FREE,[],dD 3,aI [] [] 5 (dD 3),.n,[]⟩,
 ⟨"ways",top 35,["row","book","number","thing","reading","name","case","bound"],["row","book","number","thing","reading"],FREE,[12,11,23],dD 5,aI [] Φy 8 (dD 5),.n,[]⟩,
 ⟨"with_open",top 34,["row","book","known","found","number","thing","longer","reading"],["row","book","known","found"],FREE,[],dD 2,aI [] [] 8 (dD 2),.n,[]⟩,
 ⟨"readings",top 32,["act","books","things","known","found","row"],["act","books","things"],FREE,[13,25,24],dD 5,aI [] Φr 6 (dD 5),.n,[]⟩,
 ⟨"settled",top 38,["act","books","things","claim","asking","known","yes","no","reading"],["act","books","things","claim"],FREE,[13,21,26],dD 8,aI [] Φs 9 (dD 8),.n,[]⟩,
 ⟨"_law_drawn",top 42,["_law_cell","_law_digits"],["_law_cell","_law_digits"],FREE,[],dD 2,aI [] [] 2 (dD 2),.n,[]⟩,
 ⟨"_law_draw",top 43,["_law_drawn_here","_law_many","_law_number"],["_law_drawn_here","_law_many"],FREE,[],dD 4,aI [] [] 3 (dD 4),.n,[]⟩,
 ⟨"_law_count",top 44,["_law_drawn_here","_law_small","_law_count_here","_law_k"],["_law_drawn_here","_law_small"],FREE,[],dD 5,aI [] [] 4 (dD 5),.n,[]⟩,
 ⟨"_law_pack",top 45,["_law_names","_law_drawn_here","_law_small","_law_pairs","_law_name","_law_count_here"],["_law_names","_law_drawn_here","_law_small"],FREE,[],dD 3,aI [] [] 6 (dD 3),.n,[]⟩,
 ⟨"_law_book",top 48,["_law_drawn_here","_law_row","_law_small","_law_book_here","_law_k","_law_fors","_law_case","_law_at","_law_reason","_law_one"],["_law_drawn_here","_law_row","_law_small"],FREE,[29],dD 3,aI [] Φb 10 (dD 3),.n,[]⟩,
 ⟨"_law_dressed",top 56,["_law_things","_law_drawn_here","_law_handed","_law_thing","_law_some","_law_more"],["_law_things","_law_drawn_here"],FREE,[],dD 3,aI [] [] 6 (dD 3),.n,[]⟩,
 ⟨"entered",top 39,["books","reading","grown","word","book","number","one"],["books","reading"],FREE,[],dD 4,aI [] [] 7 (dD 4),.n,[]⟩,
 ⟨"_law_put",top 55,["_law_books","_law_reading","_law_more","_law_name","_law_place","_law_one"],["_law_books","_law_reading"],FREE,[],dD 4,aI [] [] 6 (dD 4),.n,[]⟩,
 ⟨"_law_told",top 54,["_law_rows_here","_law_books","_law_things","_law_found","_law_turn","_law_handed","_law_claims","_law_k","_law_row","_law_answer","_law_due_here"],["_law_rows_here","_law_books","_law_things","_law_found","_law_turn","_law_handed"],FREE,[40],dD 3,aI [] Φt 11 (dD 3),.n,[]⟩]
abbrev Lr:aP:=⟨"law",top 57,["_law_script","_law_small","_law_digits","_law_rows_here","_law_things","_law_cell","_law_base","_law_books","_law_handed","_law_same","_law_found","_law_step","_law_k","_law_new","_law_alone"],["_law_script"],FREE,[27],dD 15,aI [] Φl 15 (dD 15),.n,[]⟩
theorem cS:sR (Rz++[Lr]) FREE 0 (Rz++[Lr])=true:=by decide+kernel
theorem Xh:pD (Rz++[Lr]) (Rz++[Lr]):=⟨rfl,rfl,rfl,rfl,rfl,rfl,rfl,rfl,rfl,rfl,rfl,rfl,rfl,rfl,rfl,rfl,rfl,rfl,rfl,rfl,rfl,rfl,rfl,rfl,rfl,rfl,rfl,rfl,rfl,rfl,rfl,rfl,rfl,rfl,rfl,rfl,rfl,rfl,rfl,rfl,rfl,rfl,rfl,rfl,rfl,rfl,rfl,rfl,rfl,rfl,rfl,rfl,rfl,rfl,rfl,rfl,trivial⟩
inductive eX {α β:Type}(R:α->β->Prop):List α->List β->Prop where
 |nil:eX R [] []
 |cons {a:α} {b:β} {l:List α} {m:List β} (h:R a b) (t:eX R l m):eX R (a::l) (b::m)
theorem eX.at {c d:Type}{R:c->d->Prop}{l:List c}{m:List d}(h:eX R l m):∀{j:Nat} {a:c},l[j]?=Z9 a->∃b,m[j]?=Z9 b/\R a b:=by
 induction h with
 |nil=>intro j a e;cases e
 |cons h t f=>
  intro j a e;cases j with
  |zero=>cases e;exact⟨_,rfl,h⟩
  |succ j=>exact f e
section
variable (P:cw)(w:World)(K:Z5)(mg:Str->Option Value)(base:Heap)
abbrev FX (k:Nat)(f:Addr)(fd:ja)(ps:List Str)(sp:Sp):Prop:=FnOk P w K mg base (CXE P w base) k f fd ps sp
def Fc (r:Nat)(x:Str×Nat)(sp:Sp):Prop:=∃f fd ps k,k<=r/\FX P w K mg base k f fd ps sp/\mg x.1=Z9 (.ref f)/\Z4 K (.ref f)=Z7/\Binds K fd ps []
variable {P w K mg base}
theorem Xi (b:Z.K=K)(c:Z.mg=mg)(f:eX (Fc P w K mg base r) a.fn Z.fn)(g:eX (λx n=>∃t,mg x=Z9 (.int n t)) a.gi Z.gi)(d:a.me=[])(h:a.cl=[])(i:a.hf=[])(l:a.md=[])(m:a.mq=[]):Zok a Z (CXE P w base) P w K mg base r where
 kk:=b
 mm:=c
 fn:=λj x n e=>by obtain⟨o,b,f,fd,ps,k,d,h,i,l,m⟩:=f.at e;exact⟨o,f,fd,ps,k,b,d,h,i,l,m⟩
 me:=λj x n e=>by rw[d]at e;cases e
 cl:=λj x n e=>by rw[h]at e;cases e
 gi:=λj x e=>by obtain⟨n,b,t,c⟩:=g.at e;exact⟨n,t,b,c⟩
 hf:=λj x n e=>by rw[i]at e;cases e
 md:=λj x n e=>by rw[l]at e;cases e
 mq:=λj x n e=>by rw[m]at e;cases e
end
abbrev gM (st:Stmt)(N:List Str)(fns:List (Str×Nat)):Gm:={N:=N,sc:=z0b st,free:=FREE,fns:=fns,cst:=[]}
abbrev gH (r:aP)(fn fns:List (Str×Nat))(gi:List Str):Gw:={g:=gM r.st r.N fns,fn:=fn,me:=[],cl:=[],gi:=gi}
abbrev zH (K:Z5)(mg:Str->Option Value)(fn:List Sp)(Φ:List Fn)(gi:List Int):Wc:={K:=K,mg:=mg,Κ:=[],Φ:=Φ,E:=λ_ _ _=>False,fn:=fn,me:=[],cl:=[],gi:=gi}
theorem iO {i:Nat}(h:sR a FREE 0 a=Z7)(e:a[i]?=Z9 r):FnScope r.N r.ps (z0b r.st):=(Au (Eu h e)).1
theorem Xj {P:cw}{w:World}{K:Z5}{mg:Str->Option Value}{base:Heap}{k:Nat}{f:Addr}{fd:ja}{ps:List Str}{sp Nh:Sp}(F:FnOk P w K mg base (CXE P w base) k f fd ps sp)(h:∀vs H Q E,Nh vs H Q E->sp vs H Q λ_ _ _=>False):FnOk P w K mg base lQ k f fd ps Nh:=
 ⟨λvs H Q E q=>F.len vs H Q _ (h _ _ _ _ q),λA outer s H args us vs Q E hr he hb hv hs=>nh (F.run A outer s H args us vs Q _ hr he hb hv (h _ _ _ _ hs)) λr s' z=>by
  cases r with
  |error e=>exact z.elim
  |ok x=>cases x<;>exact z⟩
def zL:Fn:=λds=>match ds with
 | [.list xs]=>if(xs.all λx=>match x with|.int _=>Z7|_=>Z6)&&decide (xs.length<=63)then .ok (.fr,.bool Z7)else .no
 |_=>.no
theorem Xk {a:List Int}(b:a.length<=63):zL [.list (a.map .int)]=.ok (.fr,.bool Z7):=by show(if((a.map ZZ).all _&&decide ((a.map ZZ).length<=63))=Z7 then Res.ok (G.fr,ZX Z7)else Res.no)=_;rw[xh];rw[ae,xp b,t8,nr,bg];intro x _;rfl
theorem jA:∀{a:List D},(a.all λx=>match x with|.int _=>Z7|_=>Z6)=Z7->∃b:List Int,a=b.map .int
 | [],_=>⟨[],rfl⟩
 |y::a,h=>by
  rw[c8,az]at h;obtain⟨b,e⟩:=jA h.2;cases y with
  |int i=>exact⟨i::b,by rw[e];rfl⟩
  |_=>cases h.1
theorem Xl {P:cw}{w:World}{K:Z5}{mg:Str->Option Value}{base:Heap}{CX:CXT}{k:Nat}{f:Addr}{fd:ja}{ps:List Str}{n:Nat}{m:Fn}(F:FnOk P w K mg base lQ k f fd ps (spD K n m)):FnOk P w K mg base CX k f fd ps (spD K n m):=
 ⟨F.len,λA outer s H args us vs Q E hr he hb hv hs=>nh (F.run A outer s H args us vs Q E hr he hb hv hs) λr s' z=>by
  cases r with
  |error e=>exact(show False from z).elim
  |ok x=>cases x<;>exact z⟩
section
variable {P:cw}{w:World}{K:Z5}{mg:Str->Option Value}{base:Heap}
structure Tx (K:Z5)(mg:Str->Option Value):Prop where
 T:∀n∈FREE,mg n=Z8
 mu:∃t,mg "MOST_USES"=Z9 (.int 8 t)
def Fd (P:cw)(w:World)(K:Z5)(mg:Str->Option Value)(base:Heap)(k:Nat)(x:Str×Nat)(m:Fn):Prop:=∃ps k',k'<=k/\Cal P w K mg base k' x.1 ps (spD K x.2 m)
theorem Xm (h:nH P w K mg base i r)(hk:r.kd=.n)(a:i+1<=k):Fd P w K mg base k (r.nm,r.ps.length) r.F:=by unfold nH at h;rw[hk]at h;exact⟨r.ps,i+1,a,h⟩
theorem GS (t:Tx K mg){st:Stmt}(h:eX (Fd P w K mg base k) fns Φ):Dok (gM st N fns) [] Φ P w K mg base k where
 free:=λx hx=>t.T x (fq.mp hx)
 fns:=λj f n e=>by obtain⟨m,a,ps,b,c,d⟩:=h.at e;exact⟨m,b,ps,a,c,d⟩
 cst:=λj x e=>by cases e
theorem wm65 (t:Tx K mg)(Fu:Fun K x qual r.st f fd)(Sc:FnScope r.N r.ps (z0b r.st))
  (a0:eX (Fd P w K mg base k) fns Φ:=by exact .nil) (a1:eX (Fc P w K mg base k) fn fS:=by exact .nil) (a2:eX (λx n=>∃t,mg x=Z9 (.int n t)) gi gS:=by exact .nil)
  (hc:wkL (gH r fn fns gi) s (z0t r.st)=true:=by decide+kernel) (run:∀vs H Q E (zG:Prop),(vs.length=r.ps.length->wS {zH K mg fS Φ gS with E:=E} s {nx:=λ_ H'=>Q .bG H',rt:=Q} (start r.N vs) H->zG)->sp vs H Q E->zG):FX P w K mg base (k+1) f fd r.ps sp:=
 Fj Fu Sc rfl rfl (GS t a0) (λE=>Xi rfl rfl a1 a2 rfl rfl rfl rfl rfl) rfl hc (λvs H Q E=>run vs H Q E _ λa _=>a) λvs H Q E=>run vs H Q E _ λ_ b=>b
theorem Fc.mono (h:Fc P w K mg base r x a)(hr:r<=b):Fc P w K mg base b x a:=by obtain⟨f,fd,ps,k,c,d⟩:=h;exact⟨f,fd,ps,k,a8 c hr,d⟩
theorem Xn (h:nH P w K mg base i r)(hk:r.kd=.n)(hi:i<k):Fc P w K mg base k (r.nm,n) (spD K r.ps.length r.F):=by unfold nH at h;rw[hk]at h;obtain⟨f,fd,F,m,k,b⟩:=h;exact⟨f,fd,r.ps,i+1,hi,Xl F,m,k,b⟩
theorem Xo (t:Tx K mg)(dd:∀i r,i<41->(Rz++[Lr])[i]?=Z9 r->nH P w K mg base i r)(O:∀i r,i<55->(Rz++[Lr])[i]?=Z9 r->Own K mg r.nm r.st r.ps){f:Addr}{fd:ja}(Fl:Fun K "law" "law" (top 57) f fd):FnOk P w K mg base lQ 48 f fd ["_law_script"] (spD K 1 zL):=by
 obtain⟨f1,Xp,Xq,m1,k1,b1⟩:=O 41 _ (by decide) rfl;obtain⟨f2,Xr,Xs,m2,k2,b2⟩:=O 42 _ (by decide) rfl;obtain⟨f3,Xt,Xu,m3,k3,b3⟩:=O 43 _ (by decide) rfl;obtain⟨f4,Xv,Xw,m4,k4,b4⟩:=O 44 _ (by decide) rfl;obtain⟨f5,Xx,Xy,m5,k5,b5⟩:=O 45 _ (by decide) rfl;obtain⟨f6,Xz,XA,m6,k6,b6⟩:=O 46 _ (by decide) rfl;obtain⟨f7,XB,XD,m7,k7,b7⟩:=O 47 _ (by decide) rfl;obtain⟨f8,XE,XF,m8,k8,b8⟩:=O 48 _ (by decide) rfl;obtain⟨f9,XG,XH,m9,k9,b9⟩:=O 49 _ (by decide) rfl;obtain⟨XI,GU,GV,XJ,XM,XN⟩:=O 50 _ (by decide) rfl;obtain⟨XO,GW,GX,XP,XQ,XR⟩:=O 51 _ (by decide) rfl;obtain⟨XS,GY,GZ,XT,XU,XW⟩:=O 52 _ (by decide) rfl;obtain⟨XX,G0,G1,XY,XZ,X0⟩:=O 53 _ (by decide) rfl;obtain⟨X1,G2,G3,X2,X3,X4⟩:=O 54 _ (by decide) rfl;have d:∀{i k:Nat} {r:aP},(Rz++[Lr])[i]?=Z9 r->i<41->r.kd=.n->i<k->Fd P w K mg base k (r.nm,r.ps.length) r.F:=λe hi hk h=>Xm (dd _ _ hi e) hk h;have A1:Fc P w K mg base 42 ("continued",4) (spCt K):=⟨f1,Xp,_,42,af _,wm65 (s:=L65.ct) t Xq (iO cS (i:=41) rfl) (run:=by rintro _ _ _ _ _ zq ⟨x,es,k,ns,v,ve,pn,rfl,a,q⟩;exact zq rfl (zoo rfl rfl a q)),m1,k1,b1⟩;have A2:Fc P w K mg base 43 ("ways",5) (spWy K):=⟨f2,Xr,_,43,af _,wm65 (s:=L65.wy) t Xs (iO cS (i:=42) rfl) (a0:=.cons (d (i:=12) rfl (by decide) rfl (by decide)) (.cons (d (i:=11) rfl (by decide) rfl (by decide)) (.cons (d (i:=23) rfl (by decide) rfl (by decide)) .nil))) (a1:=.cons A1 .nil) (run:=by rintro _ _ _ _ _ zq ⟨o,rs,th,k,x,vr,vb,vt,v,rfl,a,q⟩;exact zq rfl (zsh rfl rfl rfl a q)),m2,k2,b2⟩;have A3:Fc P w K mg base 44 ("with_open",4) (spWo K):=⟨f3,Xt,_,44,af _,wm65 (s:=L65.wo) t Xu (iO cS (i:=43) rfl) (a1:=.cons A2 .nil) (run:=by rintro _ _ _ _ _ zq ⟨o,rs,ths,l,B,vr,vb,vk,vf,rfl,a,q⟩;exact zq rfl (zrl rfl rfl rfl a q)),m3,k3,b3⟩;have A4:Fc P w K mg base 45 ("readings",3) (spRd K):=⟨f4,Xv,_,45,af _,wm65 (s:=L65.rg) t Xw (iO cS (i:=44) rfl) (a0:=.cons (d (i:=13) rfl (by decide) rfl (by decide)) (.cons (d (i:=25) rfl (by decide) rfl (by decide)) (.cons (d (i:=24) rfl (by decide) rfl (by decide)) .nil))) (a1:=.cons A3 .nil) (a2:=.cons (b:=8) t.mu .nil) (run:=by rintro _ _ _ _ _ zq ⟨rows,es,bk,hd,fa,va,vb,vt,rfl,a,q⟩;exact zq rfl (zs1 rfl rfl rfl rfl a q)),m4,k4,b4⟩;have A5:Fc P w K mg base 46 ("settled",4) (spSe K):=⟨f5,Xx,_,46,af _,wm65 (s:=L65.st) t Xy (iO cS (i:=45) rfl) (a0:=.cons (d (i:=13) rfl (by decide) rfl (by decide)) (.cons (d (i:=21) rfl (by decide) rfl (by decide)) (.cons (d (i:=26) rfl (by decide) rfl (by decide)) .nil))) (a1:=.cons A4 .nil) (run:=by rintro _ _ _ _ _ zq ⟨rows,es,bk,hd,fa,cl,ask,f,va,vb,vt,rfl,a,q⟩;exact zq rfl (zo7 rfl rfl rfl a q)),m5,k5,b5⟩;have B1:Fc P w K mg base 42 ("_law_drawn",2) (spDn K):=⟨f6,Xz,_,42,af _,wm65 (s:=L65.dn) t XA (iO cS (i:=46) rfl) (run:=by rintro _ _ _ _ _ zq ⟨c,b,rfl,q⟩;exact zq rfl (VP rfl rfl q)),m6,k6,b6⟩;have B2:Fc P w K mg base 42 ("_law_draw",2) (spDr K):=⟨f7,XB,_,42,af _,wm65 (s:=L65.dr) t XD (iO cS (i:=47) rfl) (run:=by rintro _ _ _ _ _ zq ⟨p,a,m,n,rfl,d,h0,h1,q⟩;exact zq rfl (VQ rfl rfl d h0 h1 q)),m7,k7,b7⟩;have B3:Fc P w K mg base 43 ("_law_count",2) (zD K):=⟨f8,XE,_,43,af _,wm65 (s:=L65.cn) t XF (iO cS (i:=48) rfl) (a1:=.cons B2 .nil) (run:=by rintro _ _ _ _ _ zq ⟨p,a,m,b,rfl,d,q⟩;exact zq rfl (VS rfl rfl rfl d q)),m8,k8,b8⟩;have B4:Fc P w K mg base 44 ("_law_pack",3) (spPc K):=⟨f9,XG,_,44,af _,wm65 (s:=L65.pc) t XH (iO cS (i:=49) rfl) (a1:=.cons B3 .nil) (run:=by rintro _ _ _ _ _ zq ⟨ns,an,p,a,m,b,rfl,h,q⟩;exact zq rfl (VT rfl rfl rfl h q)),m9,k9,b9⟩;have B5:Fc P w K mg base 45 ("_law_book",3) (spBo K):=⟨XI,GU,_,45,af _,wm65 (s:=L65.bo) t GV (iO cS (i:=50) rfl) (a0:=.cons (d (i:=29) rfl (by decide) rfl (by decide)) .nil) (a1:=.cons (B2.mono (by decide)) (.cons (B4.mono (by decide)) .nil)) (run:=by rintro _ _ _ _ _ zq ⟨o,p,a,m,b,vr,rfl,d,rr,q⟩;exact zq rfl (zt4 rfl rfl rfl rfl d rr q)),XJ,XM,XN⟩;have B6:Fc P w K mg base 43 ("_law_dressed",2) (spDd K):=⟨XO,GW,_,43,af _,wm65 (s:=L65.dd) t GX (iO cS (i:=51) rfl) (a1:=.cons B2 .nil) (run:=by rintro _ _ _ _ _ zq ⟨ths,p,a,m,vt,rfl,d,rt,hl,h3,q⟩;exact zq rfl (zo6 rfl rfl rfl d rt hl h3 q)),XP,XQ,XR⟩;have C1:Fc P w K mg base 42 ("entered",2) (spEn K):=⟨XS,GY,_,42,af _,wm65 (s:=L65.en) t GZ (iO cS (i:=52) rfl) (run:=by rintro _ _ _ _ _ zq ⟨bs,x,vb,vr,rfl,a,q⟩;exact zq rfl (WG rfl rfl a q)),XT,XU,XW⟩;have C2:Fc P w K mg base 42 ("_law_put",2) (spEn K):=⟨XX,G0,_,42,af _,wm65 (s:=L65.pu) t G1 (iO cS (i:=53) rfl) (run:=by rintro _ _ _ _ _ zq ⟨bs,x,vb,vr,rfl,a,q⟩;exact zq rfl (WH rfl rfl a q)),XY,XZ,X0⟩;have A6:Fc P w K mg base 47 ("_law_told",6) (spTo K):=⟨X1,G2,_,47,af _,wm65 (s:=L65.to) t G3 (iO cS (i:=54) rfl) (a0:=.cons (d (i:=40) rfl (by decide) rfl (by decide)) .nil) (a1:=.cons A5 .nil) (run:=by rintro _ _ _ _ _ zq ⟨rows,es,bk,hd,fa,cls,turn,va,vb,vt,vf,vh,rfl,a,q⟩;exact zq rfl (zp7 rfl rfl rfl a q)),X2,X3,X4⟩;have D1:Fc P w K mg base 47 ("_law_rows",1) (spD K 1 zfm):=Xn (dd 30 _ (by decide) rfl) rfl (by decide)
 let sp:Sp:=λvs H Q _=>∃(v0:V) (xs:List Int) (B:Ad->Prop),vs=[v0]/\xs.length<=63/\Rep K H B v0 (.list (xs.map ZZ))/\∀H',Same H H'->Q (.bl Z7) H'
 have F8:FX P w K mg base 48 f fd ["_law_script"] sp:=wm65 (r:=Lr) (s:=L65.lw) t Fl (iO cS (i:=55) rfl) (a0:=.cons (d (i:=27) rfl (by decide) rfl (by decide)) .nil) (a1:=.cons A6 (.cons (A4.mono (by decide)) (.cons (C2.mono (by decide)) (.cons (C1.mono (by decide)) (.cons (B6.mono (by decide)) (.cons (B1.mono (by decide)) (.cons (B5.mono (by decide)) (.cons (B4.mono (by decide)) (.cons (B2.mono (by decide)) (.cons D1 .nil)))))))))) (run:=by rintro _ _ _ _ _ zq ⟨v0,xs,B,rfl,hx,r0,q⟩;exact zq rfl (zsg rfl rfl rfl rfl rfl rfl rfl rfl rfl rfl rfl rfl hx r0 q));refine Xj F8 λvs H Q E ⟨A,ds,x,h1,h2,h3,q⟩=>?_;unfold zL at h3;split at h3
 .rename_i ys;split at h3
  .rename_i hc;rw[az,decide_eq_true_eq]at hc;cases h3;obtain⟨xs,rfl⟩:=jA hc.1;obtain⟨v,t,rfl,r0,hr⟩:=h2;have:t=[]:=hr;subst this;exact⟨v,xs,A,rfl,by have:=hc.2;rw[ae]at this;exact this,r0,λH' s=>q (.bl Z7) H' s rfl⟩
  .cases h3
 .cases h3
end
section
variable {w:World}{K:Z5}{mg:Str->Option Value}
theorem all65 {l:W.OpenLaw}(X:K.In h)(G:h.Ns dm mg)(d:mg "law"=Z9 (.ref p))(q:kOks K Rz)(u:∃f fd,Kf K Lr f fd)(x:∀n∈FREE,W.nsIn K dm n=Z9 Z8)(mu:∃t,W.nsIn K dm "MOST_USES"=Z9 (Z9 (.int 8 t))):
  ∃fd,(∀s v,sj s fd ⟨[v],[]⟩ [("_law_script",v)])/\∀base,K.In base->base.Ns dm mg->FnOk l.prog w K mg base lQ 48 p fd ["_law_script"] (spD K 1 zL):=by
 obtain⟨f,fd,a,oc,od,an,sl,kV,dc,m,cd,ct,rfl,g,j,hk⟩:=u;have e:=d.symm.trans (W.mg_of X G a);cases e;have T:=λn hn=>W.mg_none_of X G (x n hn);refine⟨W.fnOf "law" "law" (z1f (top 57)) (z0t (top 57)) (z0b (top 57)) .none kV dc m an cd ct,λs v=>.of_eq rfl,λbase _ _=>?_⟩;have O:∀i r,i<55->(Rz++[Lr])[i]?=Z9 r->Own K mg r.nm r.st r.ps:=λi r c e=>by rw[iw c]at e;obtain⟨⟨f,fd,a,oc,od,an,sl,kV,dc,m,cd,ct,rfl,g,j,hk⟩,hb⟩:=J1 q e;exact zrv X G a g j hk hb
 have b:((Rz++[Lr]).all λr=>r.kc.isEmpty)=true:=rfl;have k:∀r∈Rz++[Lr],∀y∈r.kc,Ex K mg y:=λr hr y o=>by have:=bg.mp b r hr;rw[qa.mp this]at o;cases o
 obtain⟨t,mu⟩:=mu;exact Xo ⟨T,t,W.mg_of X G mu⟩ (λi r c e=>SS cS Xh T 41 k (λi r c e=>O i r (by omega) e) i r c e) O (Co g j hk)
end
def uA:DefRec:=⟨"law",z1f (top 57),z0t (top 57),z0b (top 57),⟨280,0,306,65⟩⟩
theorem G4:KEq wB (Rz++[Lr]) FREE:=by
 rw[PySem.W.Fast.tkeq_eq];intro P
 kernel_rfl
theorem X5:Tp.said PySem.Challenge.rw_likebook_k65_whole_claims_settled=true:=by
 rw[PySem.W.Fast.tsaid_eq]
 kernel_rfl
theorem X6:W.opening lG=W.plainProg lG.main.scope.names:=by kernel_rfl
theorem X7:∀s,fenceModules? lG s=Z9 s:=λs=>by kernel_rfl
theorem X8:W.defOf vZ PySem.Challenge.rw_likebook_k65_whole_claims_settled.row.name=Z9 (uA,[]):=by kernel_rfl
theorem X9:lG.theDef PySem.Challenge.rw_likebook_k65_whole_claims_settled.row.name=Z9 (uA.params,uA.body,uA.scope):=by kernel_rfl
theorem X':W.kwWritten? uA.params.kwonlyargs uA.params.kw_defaults=Z9 []:=by kernel_rfl
theorem Ya:(!PySem.Challenge.rw_likebook_k65_whole_claims_settled.row.writes||PySem.Challenge.rw_likebook_k65_whole_claims_settled.row.records.isEmpty)=true:=by kernel_rfl
theorem Yb:(W.chainsOk vZ&&W.opensWell lG&&(W.frees PySem.Challenge.rw_likebook_k65_whole_claims_settled.row.toRowW&&PySem.Challenge.rw_likebook_k65_whole_claims_settled.row.within.isEmpty))=true:=by kernel_rfl
theorem walk {l:W.OpenLaw}{K:g9->Z5}(hn:l.most=Z9 63)(b:d.params.defaults=[])
  (e:∀w h,g w h->(K w.params).In h)
  (F:∀w mg c h,(K w.params).In h->h.Ns dm mg->mg d.name=Z9 (.ref c)->∃fd,(∀s u,sj s fd ⟨[u],[]⟩ [("_law_script",u)])/\∀base,(K w.params).In base->base.Ns dm mg->FnOk l.prog w (K w.params) mg base lQ 48 c fd ["_law_script"] (spD (K w.params) 1 zL)):
  W.WalkO q loose k g l.row.toRowW d [] (λf i=>PySem.call f i):=
 L2.walk_of hn (by decide) b ⟨rfl,by decide,by decide,rfl⟩ e F (λ_ _ a ns hl _ j=>⟨_,_,_,rfl,SQ j,Xk hl,λv m _ r=>r⟩) λ_ _ _ _ _ z=>z
theorem kX:KXq wB [("MOST_USES",8)]:=by
 rw[PySem.W.Fast.tkxq_eq];intro P
 kernel_rfl
theorem G5:sS Rz:=⟨λ_ _ _ _ _ _=>vE λ_=>rfl,λ_ _ _ _ _ _=>vE λ_=>rfl,λ_ _ _ _ _ _=>eY λ_ _=>rfl,λ_ _ _ _ _ _=>vE λ_=>rfl,λ_ _ _ _ _ _=>eY λ_ _=>rfl,λ_ _ _ _ _ _=>eY λ_ _=>rfl,λ_ _ _ _ _ _=>eY λ_ _=>rfl,λ_ _ _ _ _ _=>eF λ_ _ _=>rfl,λ_ _ _ _ _ _=>vE λ_=>rfl,λ_ _ _ _ _ _=>eY λ_ _=>rfl,λ_ _ _ _ _ _=>eY λ_ _=>rfl,λ_ _ _ _ _ _=>eY λ_ _=>rfl,λ_ _ _ _ _ _=>eY λ_ _=>rfl,λ_ _ _ _ _ _=>eY λ_ _=>rfl,λ_ _ _ _ _ _=>eF λ_ _ _=>rfl,λ_ _ _ _ _ _=>eF λ_ _ _=>rfl,λ_ _ _ _ _ _=>eF λ_ _ _=>rfl,λ_ _ _ _ _ _=>eF λ_ _ _=>rfl,λ_ _ _ _ _ _=>eF λ_ _ _=>rfl,λ_ _ _ _ _ _=>eF λ_ _ _=>rfl,λ_ _ _ _ _ _=>eF λ_ _ _=>rfl,λ_ _ _ _ _ _=>eF λ_ _ _=>rfl,λ_ _ _ _ _ _=>eF λ_ _ _=>rfl,λ_ _ _ _ _ _=>eF λ_ _ _=>rfl,λ_ _ _ _ _ _=>eF λ_ _ _=>rfl,λ_ _ _ _ _ _=>eY λ_ _=>rfl,λ_ _ _ _ _ _=>eY λ_ _=>rfl,λ_ _ _ _ _ _=>eY λ_ _=>rfl,λ_ _ _ _ _ _=>eY λ_ _=>rfl,λ_ _ _ _ _ _=>eY λ_ _=>rfl,λ_ _ _ _ _ _=>vE λ_=>rfl,λ_ _ _ _ _ _=>eY λ_ _=>rfl,λ_ _ _ _ _ _=>eF λ_ _ _=>rfl,λ_ _ _ _ _ _=>eF λ_ _ _=>rfl,λ_ _ _ _ _ _=>eF λ_ _ _=>rfl,λ_ _ _ _ _ _=>eF λ_ _ _=>rfl,λ_ _ _ _ _ _=>eF λ_ _ _=>rfl,λ_ _ _ _ _ _=>eF λ_ _ _=>rfl,λ_ _ _ _ _ _=>eF λ_ _ _=>rfl,λ_ _ _ _ _ _=>eF λ_ _ _=>rfl,λ_ _ _ _ _ _=>eF λ_ _ _=>rfl,λ_ _ _ _ _ _=>by4 λ_ _ _ _=>rfl,λ_ _ _ _ _ _=>JZ λ_ _ _ _ _=>rfl,λ_ _ _ _ _ _=>by4 λ_ _ _ _=>rfl,λ_ _ _ _ _ _=>eF λ_ _ _=>rfl,λ_ _ _ _ _ _=>by4 λ_ _ _ _=>rfl,λ_ _ _ _ _ _=>eY λ_ _=>rfl,λ_ _ _ _ _ _=>eY λ_ _=>rfl,λ_ _ _ _ _ _=>eY λ_ _=>rfl,λ_ _ _ _ _ _=>eF λ_ _ _=>rfl,λ_ _ _ _ _ _=>eF λ_ _ _=>rfl,λ_ _ _ _ _ _=>eY λ_ _=>rfl,λ_ _ _ _ _ _=>eY λ_ _=>rfl,λ_ _ _ _ _ _=>eY λ_ _=>rfl,λ_ _ _ _ _ _=>SU λ_ _ _ _ _ _=>rfl,trivial⟩
end Mk
open PySem PySem.W PyProof.Rows Mi
set_option maxRecDepth 100000 in
set_option maxHeartbeats 0 in
theorem PySem.Challenge.cw_likebook_k65_whole_claims_settled_holds : PySem.Challenge.rw_likebook_k65_whole_claims_settled.Holds := by
 refine Tp.holds (l:=PySem.Challenge.rw_likebook_k65_whole_claims_settled) (q:=Mk.vZ) (d:=Mk.uA) (K:=Mk.wB) (M:=100000) (N:=200000) Mk.X5 (Tp.vY _ _ Mk.zM) Mk.X6 rfl Mk.X7 (by decide) Mk.Nj Mk.Nk Mk.X8 Mk.X9 Mk.X' Mk.Ya Mk.Yb ⟨rfl,rfl,rfl,rfl,rfl,by decide+kernel⟩ (by w_witness2) ?_;refine Mk.walk (l:=PySem.Challenge.rw_likebook_k65_whole_claims_settled) rfl rfl (λw h Y=>Y) ?_;intro w mg fa h KX G Yc;exact Mk.all65 KX G Yc (J4 (λr hr=>(Ez Mk.G4 w.params).1 r (gv _ hr)) Mk.G5) ((Ez Mk.G4 w.params).1 Mk.Lr (bp _ (.head _))) (Ez Mk.G4 w.params).2.1 (Ue Mk.kX w.params ("MOST_USES",8) (.head _))
