import PyProof.Rows.All
import Wide.All
import OpenK.AllK
import PySem.Challenge.RW_likebook_k25_least_reasons
open Option renaming some->Z9,none->Z8
open PySem.W renaming Frag->Z5,subIn->Z4
open PySem.PyData renaming strOk->Z3,str->Z2,list->Z1,int->Z0,canLay0->ZZ,canLayAll0->ZY,depthAll->ZX,eqvAll->ZW
open PySem.Value renaming ref->ZV,type->ZU
open Bool renaming true->Z7,false->Z6
open Lean.Parser.Command in
local macro_rules|`(def $a:declId $b:optDeclSig $c:declVal)=>`(noncomputable def $a:declId $b:optDeclSig $c:declVal)|`(abbrev $a:declId $b:optDeclSig $c:declVal)=>`(noncomputable abbrev $a:declId $b:optDeclSig $c:declVal)
noncomputable section
open Array renaming length_toList->bq,getD_eq_getD_getElem?->cy,getElem?_eq_some_iff->c6,getElem?_toList->d9,getElem?_eq_getElem->e8,forIn_toList->ma,Perm->qx,getElem?_eq_none->qz,append_assoc->uo,size_append->wa
open Bool renaming and_eq_true->ax,and_eq_true_iff->b6,false_ne_true->c7,or_eq_true->eh,or_eq_true_iff->gf,not_eq_true'->g9,or_true->lj,true_or->mz,beq_eq_decide_eq->nq,or_false->p8,eq_iff_iff->ro,and_self->ui,and_true->um,eq_false_iff->vq
open Int renaming toNat_natCast->ik,le_refl->ki,emod_lt_of_pos->kj,natCast_nonneg->km,emod_nonneg->ku,lt_irrefl->ul
open List renaming length_map->af,mem_cons_self->ah,length_append->am,mem_append_right->aq,mem_cons_of_mem->av,mem_cons->aw,mem_singleton->ay,getD_eq_getElem?_getD->az,mem_map->a6,length_cons->a8,all_eq_true->a9,getElem?_eq_getElem->ba,getElem?_eq_some_iff->bc,map_cons->bg,size_toArray->bn,replicate->bp,getElem?_map->bt,nodup_cons->bw,mem_of_getElem?->bx,getElem?_set_ne->bz,map_append->b7,mem_filter->ce,mem_append->cf,pairwise_cons->cn,range->cr,length_set->cu,mem_append_left->cx,getElem?_set_self->cz,filterMap_cons->c8,contains_iff_mem->df,append_nil->dg,mem_iff_getElem?->dm,lookup_cons->dn,append_assoc->du,length_replicate->dz,not_mem_nil->eu,mem_filterMap->fg,Pairwise->fj,all_cons->fq,length_filter_le->fu,getElem?_append_right->fy,length_take->f8,map_map->gb,filter_eq_nil_iff->gc,length_range->gh,nodup_nil->gm,length->gq,getElem?_replicate->gu,pairwise_singleton->gy,getElem_mem->gz,getElem?_set->ig,pairwise_map->ij,nodup_append->il,filter_eq_self->im,drop_eq_getElem_cons->ip,countP_cons->iu,mem_range->iy,replicate_succ->i9,take_of_length_le->jc,length_drop->jd,isEmpty_iff->jf,getElem?_append_left->jl,getElem?_zip_eq_some->jp,of_mem_zip->jt,range_eq_range'->jw,pairwise_append->jy,map_inj_left->jz,length_eq_zero_iff->j5,mem_flatMap->ke,foldl_cons->kr,getElem?_toArray->ky,toArray->li,pairwise_iff_getElem->lq,map->lx,Perm->mh,filter_cons_of_pos->mj,filter_cons_of_neg->mo,flatten_cons->mx,flatMap_cons->nh,length_singleton->nk,take_append_drop->nr,countP_mono_left->nv,getElem?_append->n8,eq_nil_of_length_eq_zero->og,find?_cons->oo,mem_zipIdx_iff_getElem?->ou,getElem?_range->oy,getElem_of_mem->oz,findSome?_eq_none_iff->pq,getElem?_eq_none_iff->pv,any_cons->p7,length_erase_of_mem->qc,filterMap_cons_none->qd,filterMap_cons_some->qe,mem_flatten->qi,drop_length->qj,length_pos_of_mem->rc,Sublist->rh,flatMap_singleton->rm,length_zip->rq,getElem?_eq_none->sf,filterMap_append->sg,mem_of_mem_drop->sy,mem_of_mem_take->tj,mem_erase_of_ne->tt,getElem?_of_mem->tw,map_congr_left->t8,flatMap_append->uc,getElem?_drop->uw,contains_cons->uy,filter_append->uz,ext_getElem?->vt,set_set->v7,foldl->xg
open List.Pairwise renaming imp_of_mem->ly
open Nat renaming le_refl->ar,le_trans->bo,ne_of_lt->br,lt_of_lt_of_le->b8,lt_irrefl->cg,zero_le->dr,lt_succ_of_lt->gi,le_add_right->j6,le_succ->lc,ne_of_gt->lg,lt_succ_self->lh,zero_add->ll,min_eq_left->l7,lt_of_le_of_lt->l9,le_of_lt->mq,succ_pos->my,le_of_lt_succ->nc,min_le_left->ox,lt_trans->o6,le_of_not_lt->qh,div_div_eq_div_mul->q9,pow_le_pow_right->tq,sub_le_sub_right->tu,add_sub_cancel'->t7,testBit_two_pow->ua,mod_lt->ux,le_of_eq->vp,pow_succ->v6,sub_self->wc,add_mul->wv
open Option renaming map_eq_some_iff->dj,isNone_iff_eq_none->jq,bind_eq_some_iff->kb
open Prod renaming snd->wb,fst->xn
open PyProof.Rows renaming seqObj->dw,get?_update_seq->l4,listUpdate_at->n6,AllBare->o5,size_push'->pe,subscriptTail_builtinR->qt,listItems_at->qy,envOfC->sr,seqEpoch_at->tm,IntsAre->t5,Constant_none->ud,plain_sorted->vw,entry_sorted->vy,args_sorted1->vz,keyKind'->v5,kind_sorted->wp
open PySem renaming wpAny_bind->aa,wpAny_pure->ae,PyData->ak,Shared->ao,SetTable->au,sizeLine->bj,Program->b9,mainGlobals->ci,wpAny_holding->cq,bootBuiltins->c9,Around->dh,codeAny_builtin->dq,wpAny_field->d8,starEach->fh,compareOp->fi,wpAny_seqItems->fz,wpAny_call_entry->f9,wpAny_setField_rec->gn,foldedSetIterable->g7,sizeLine_eq->io,PassesOwn->iq,behindInMarks->iw,binaryOp->iz,wpAny_truthy_bool->i0,wpAny_callSpecial?_slot->i6,assignEach->i7,codeAny_mono->ja,wpAny_mono->jg,wpAny_Call_Name_kw->jh,NameKind->ji,wpAny_rule->jk,Params->jo,wpAny_passesOwn->jr,wpAny_newObj_type->ju,wpAny_setState_of->jv,codeAny_call_builtin->jx,wpAny_getItem_str_slice->j4,wpAny_forIn_list->j7,scanBound->j8,letOwnedTupleGo->kq,plainId_quiet->kx,codeAny->kz,wpAny_pyIter_list->k8,ofAClassStatement->k9,wpAny_loadPart_at->la,wpAny_newList->lu,codeAny_of_tree->l5,importedModules->l6,wpAny_pyIter_tuple->l8,sliceBounds->md,treeTable->me,FuncData->ms,wpAny_typeOf->mw,wpAny_setField->m7,wpAny_storeSet_of->m8,weight_type_call_type->ny,wpAny_execs_cons->nz,swapsWith->n4,rawInt->n5,wpAny_onRaise->n7,unbindBehindTheSuite->n9,backTo->oh,wpAny_execs_nil->on,post_val_or_str->oq,wpAny_specialOf->ot,noteFrame->o8,sysModules->o9,ReadsAll->pd,wpAny_newTuple->pg,wpAny_tupleItemsOf->ph,wpAny_runValue->pi,relayAll->pj,fits_of_scanBound->p5,OsState->p6,wpAny_comprehension_free->p9,setSearchFrom->qb,noFill_tuple_add->qg,wpAny_isInstance->ql,GenState->qm,check_set_init_1->qo,pyIter->qp,wpAny_call->qq,concat_meets->qr,call_meets->qw,setAddHashed->q8,wpAny_isTrue_Compare1->r6,isSubtype_tuple_tuple->se,isTrue->sj,wpAny_loadName_local->sk,sliceRange_one->sv,BindsTo->tz,setFlight->t6,wpAny_isSubtype_exc->ub,swapsWithSole->ue,swappedStores->uf,seq_tuple_add->ug,attributeBase->uh,wpAny_Name->uq,assign->ur,wpAny_load->ut,IsPart->uu,holding->va,wpAny_assign_Name->vb,Keyword->vc,leaving->ve,valueAt->vf,getItem->vg,seqIndex_neg->vh,slot_list_getitem->vn,callerA->vo,Operator->vr,getAttr?->vv,pyNext->we,typeOf->wf,putSet_of->wg,eqIsQuiet->wj,keywordEach->wm,seqIndex_of->wo,wpAny_letGo->wq,hashByValue->wt,unsupported->wu,standAt->wx,Paired->wy,builtinsNs->wz,truthy->w4,bindArgs->xb,typeIs_str->xd,typeIs_int->xf,intItems->xh,isInstance->xl,noKeywords->xm,Result->xo
open PySem.Builtin.Dict renaming updateFrom->qk
open PySem.Builtin.Frozenset renaming updateFrom->kt,newClass->pp
open PySem.Builtin.List renaming listTooLong->j0,listExtendWith->o7
open PySem.Builtin.Slice renaming slicePlaces->jm,sliceAdjust->pw
open PySem.Builtin.SmallTypes renaming ownedTupleIsFree->lw,nextOf->py
open PySem.Builtin.Str renaming strSliceIndices->jb
open PySem.Builtin.Tuple renaming tupleItemsOf->pc,tupleHashOf->pz
open PySem.Calls renaming Name_function_global->lb,call_function_entry->lm,spliced_cons->pb,loadGlobal_global->qf,evalArgs_plain->sx
open PySem.Heap renaming get?_push_of_some->ac,get?_push_size->a7,lt_size->bh,SameBut->bu,get?_update_self->gj,size_push->gk,get?_update_other->g8,get?_none_of_le->si,get?_update_ne->t9,NewExcOf->uj
open PySem.Heap.SameBut renaming update->gg
set_option Elab.async false
set_option genInjectivity false
set_option genSizeOf false
set_option compiler.extract_closed false
set_option linter.all false
set_option maxRecDepth 100000
theorem dc {p:Prop} [Decidable p] (h:decide p=true:=by rfl):p:=by simpa using h
theorem xp {c:Prop}{d:Decidable c}(h:c){α:Sort _}{a b:α}:@ite α c d a b=a:=if_pos h
theorem xq {c:Prop}{d:Decidable c}(h:¬c){α:Sort _}{a b:α}:@ite α c d a b=b:=if_neg h
theorem xr {α}{a b:α}(h:Z9 a=Z9 b):a=b:=Option.some.inj h
theorem xu {α β}{a c:α}{b d:β}(h:(a,b)=(c,d)):a=c∧b=d:=Prod.mk.inj h
theorem xv {p:Prop} [Decidable p] (h:decide p=Z7):p:=of_decide_eq_true h
theorem xw {p:Prop} [Decidable p] (h:decide p=Z6):¬p:=of_decide_eq_false h
theorem xz {p:Prop} [Decidable p] (h:p):decide p=true:=decide_eq_true h
theorem x4 {p:Prop} [Decidable p] (h:¬p):decide p=false:=decide_eq_false h
theorem x5 {α} [BEq α] [LawfulBEq α] {a b:α}(h:(a==b)=Z7):a=b:=beq_iff_eq.mp h
abbrev Y4 (x:PySem.Str):Prop:=(x==("__debug__":PySem.Str))=Z6
namespace Tp
open PySem PySem.W PyProof.Rows
def q0:Pos:=⟨0,0,0,0⟩
def an:Option Value:=Z9 (.ref 6)
def ev (p:b9):Env:={scope:=p.main.scope,locals:=mainNs,globals:=mainNs,cells:=[],code:=.ref 13,frame:=Z9 14}
def cd (p:b9):Code:=.body (behindTheImports p) (ev p)
def grow:List Obj->Nat->BT->BT
 | [],_,t=>t
 |o::l,i,t=>grow l (i+1) (t.ins i o)
def lift (s:ao):SharedT:=⟨grow s.heap.objs.toList 0 .nil,s.heap.objs.size,s.heap.life,s.gens,s.drawn,s.toks,s.os⟩
def pre (p:b9)(H:jo->Heap)(d:Drawn)(k:Nat)(w:World)(os:p6):Option (ao×Thread):=topGo me p w 11 an 12 ⟨H w.params,#[],d,k,os⟩ (topStub p)
def nM (p:b9)(H:jo->Heap)(d:Drawn)(k:Nat)(w:World)(os:p6):SharedT:=lift (((pre p H d k w os).map xn).getD ⟨H w.params,#[],d,k,os⟩)
def run (p:b9)(H:jo->Heap)(d:Drawn)(k N:Nat)(w:World)(os:p6):Option (Flow×SharedT×Code×Pos):=segRunT me p w 11 an 1 N (nM p H d k w os) (piecesOf (behindTheImports p) (ev p) (cd p) q0 [topFrame q0])
def PreEq (p:b9)(H:jo->Heap)(d:Drawn)(k:Nat):Prop:=∀(w:World) (os:p6),((H w.params).isNs ci&&(#[]:Array qm).size==0,(H w.params).objs.size,(H w.params).nsMap ci "__annotations__",pre p H d k w os,λs c=>segRun me p w 11 an 1 1 s (blockOf (behindTheImports p) (ev p) c q0 [topFrame q0]))=(Z7,11,an,Z9 ((nM p H d k w os).abs,⟨denote me (cd p),cd p,q0,[topFrame q0]⟩),λs c=>Z9 (.next,s,c,q0))
def seen (p q:b9)(R:WRecords)(as:List Addr)(H:jo->Heap)(w:World)(s:SharedT):=(staticsOk (l6 p.main.body) (H w.params) s.abs.heap&&namesBound p s.abs.heap&&gensDone s.abs&&laidKept (H w.params) s.abs.heap,openSeen q [] (l6 p.main.body) (λs=>xlAt q [] s&&recOk R s) Z7 s.abs,as.map s.abs.heap.get?)
def pick {α:Type}(f:SharedT->α):Flow×SharedT×Code×Pos->Option (Code×α)
 |(.next,s,c,_)=>Z9 (c,f s)
 |_=>Z8
def iR (p q:b9)(R:WRecords)(as:List Addr)(K:jo->List (Addr×Obj))(H:jo->Heap)(d:Drawn)(k N:Nat):Prop:=∀(w:World) (os:p6),(run p H d k N w os).bind (pick (seen p q R as H w))=Z9 (cd p,Z7,openGood q [],(K w.params).map λx=>Z9 x.2)
theorem BO (b:String->Option Builtin)(p:b9)(w:World)(n:Nat)(a:Option Value)(s:ao)(c:Code)(ps q:Pos):topRun b p w n a 2 s ⟨doneF .next,c,ps,[topFrame q]⟩=Z9 s:=by rfl
theorem left {K:jo->List (Addr×Obj)}(o:∀w,(fencedOpening me p w N).map (fun s=>(s.heap,s.gens,s.drawn,s.toks))=Z9 (boot_heap w.params,#[],boot_drawn,boot_toks))(le:12+(1+(M+2))<=N)
  (h1:PreEq p boot_heap boot_drawn boot_toks) (h2:iR p q R as K boot_heap boot_drawn boot_toks M):LeftO p q [] (λs=>xlAt q [] s&&recOk R s) (λs=>as.map s.heap.get?) (λw=>(K w.params).map λx=>Z9 x.2) N:=λw=>by
 obtain⟨⟨h,gs,d,k,os⟩,e,e'⟩:=dj.mp (o w);have e1:=xu e';have e2:=xu e1.2;have e3:=xu e2.2;obtain rfl:h=boot_heap w.params:=e1.1;obtain rfl:gs=#[]:=e2.1;obtain rfl:d=boot_drawn:=e3.1;obtain rfl:k=boot_toks:=e3.2;have a:=xu (h1 w os);have a2:=xu a.2;have a3:=xu a2.2;have a4:=xu a3.2;obtain⟨⟨f,s,c,ps⟩,r1,r2⟩:=kb.mp (h2 w os);cases f with
 |next=>
  have b:=xu (xr r2);have b1:=xu b.2;have b2:=xu b1.2;obtain rfl:c=cd p:=b.1;have t1:topRun me p w 11 an (M+2) (nM p boot_heap boot_drawn boot_toks w os).abs (restOf (behindTheImports p++[]) (ev p) (cd p) q0 [topFrame q0])=Z9 s.abs:=piece_app (segRun_of r1) (BO me p w 11 an s.abs (cd p) ps q0);rw[dg]at t1;have t4:=topRun_mono (N-(12+(1+(M+2)))) _ _ _ _ (go_top a4.1 (piece_block (congrFun (congrFun a4.2 (nM p boot_heap boot_drawn boot_toks w os).abs) (cd p)) t1));rw[t7 le]at t4;have t:topFrom me p w N ⟨boot_heap w.params,#[],boot_drawn,boot_toks,os⟩=Z9 s.abs:=by unfold topFrom;rw[a.1,a2.1,a3.1,t4];show(match staticsOk (l6 p.main.body) (boot_heap w.params) s.abs.heap&&namesBound p s.abs.heap&&gensDone s.abs&&laidKept (boot_heap w.params) s.abs.heap with|true=>Z9 s.abs|false=>Z8)=_;rw[b1.1]
  unfold openEnds;rw[e];show(topFrom me p w N _).map _=_;rw[t];exact congrArg Z9 (Prod.ext b2.1 b2.2)
 |_=>cases r2
theorem pre_r:PreEq=PreEq:=rfl
def BP (p q:b9)(R:WRecords)(H:jo->Heap)(w:World)(s:SharedT):=(staticsOk (l6 p.main.body) (H w.params) s.abs.heap&&namesBound p s.abs.heap&&gensDone s.abs&&laidKept (H w.params) s.abs.heap,openSeen q [] (l6 p.main.body) (λs=>xlAt q [] s&&recOk R s) Z7 s.abs)
def RunA (p q:b9)(R:WRecords)(H:jo->Heap)(d:Drawn)(k N:Nat):Prop:=∀(w:World) (os:p6),(run p H d k N w os).bind (pick (BP p q R H w))=Z9 (cd p,Z7,openGood q [])
def RunB (p:b9)(as:List Addr)(K:jo->List (Addr×Obj))(H:jo->Heap)(d:Drawn)(k N:Nat):Prop:=∀(w:World) (os:p6),(run p H d k N w os).bind (pick λs=>as.map s.abs.heap.get?)=Z9 (cd p,(K w.params).map λx=>Z9 x.2)
theorem Nl {e h:Type}{f:SharedT->e}{g:SharedT->h}{x:Option (Flow×SharedT×Code×Pos)}{a:e}{b:h}(d:x.bind (pick f)=Z9 (c,a))(j:x.bind (pick g)=Z9 (c,b)):x.bind (pick λs=>(f s,g s))=Z9 (c,a,b):=by
 cases x with
 |none=>cases d
 |some y=>
  obtain⟨fl,s,k,ps⟩:=y;cases fl with
  |next=>have i:=xu (xr d);show Z9 (k,f s,g s)=_;rw[i.1,i.2,(xu (xr j)).2]
  |_=>cases d
theorem qY {K:jo->List (Addr×Obj)}(c:RunA p q R H d k N)(f:RunB p as K H d k N):iR p q R as K H d k N:=λw os=>by
 have h:=Nl (c w os) (f w os);cases e:run p H d k N w os with
 |none=>rw[e]at h;cases h
 |some y=>
  rw[e]at h;obtain⟨fl,s,g,ps⟩:=y;cases fl with
  |next=>have a:=xu (xr h);have b:=xu a.2;show Z9 (g,(BP p q R H w s).1,(BP p q R H w s).2,as.map s.abs.heap.get?)=_;rw[a.1,b.2,b.1]
  |_=>cases h
theorem runA_r:RunA=RunA:=rfl
theorem runB_r:RunB=RunB:=rfl
end Tp
lay_quick Tp.PreEq Tp.RunA Tp.RunB
name_quick tpre for Tp.PreEq by Tp.pre_r
name_quick truna for Tp.RunA by Tp.runA_r
name_quick trunb for Tp.RunB by Tp.runB_r
namespace Tp
open PySem PySem.W PyProof.Rows
theorem rn_r:run=run:=rfl
end Tp
name_quick trn for Tp.run by Tp.rn_r
namespace Tp
open PySem PySem.W PyProof.Rows
def obj (p:b9)(M:Nat)(P:jo)(a:Addr):Obj:=((PySem.W.Fast.trn p boot_heap boot_drawn boot_toks M ⟨λ_ _=>0,P⟩ default).map λx=>(x.2.1.tree.get a).getD default).getD default
def Ko (p:b9)(M:Nat)(as:List Addr)(P:jo):Frag:=as.map λa=>(a,obj p M P a)
theorem wJ (p:b9)(M:Nat)(a:List Addr)(P:jo):a=(Ko p M a P).map (·.1):=by unfold Ko;rw[gb];exact(List.map_id _).symm
def said (l:OpenLaw):Bool:=l.wellSaid
theorem said_r:said=said:=rfl
theorem holds {K:jo->Frag}(a:said l=Z7)(b:∀P,as=(K P).map (·.1))(c:opening l.row.prog=plainProg l.row.prog.main.scope.names)(g:Nat.ble 600 N=Z7)(h:∀s,fenceModules? l.row.prog s=Z9 s)(le:12+(1+(M+2))<=N)
  (i:PreEq l.row.prog boot_heap boot_drawn boot_toks) (j:iR l.row.prog q l.row.records as K boot_heap boot_drawn boot_toks M) (a1:defOf q l.row.name=Z9 (d,[])) (a2:l.row.prog.theDef l.row.name=Z9 (d.params,d.body,d.scope)) (a3:kwWritten? d.params.kwonlyargs d.params.kw_defaults=Z9 []) (a4:(!l.row.writes||l.row.records.isEmpty)=Z7)
  (k:(chainsOk q&&opensWell l.row.prog&&(frees l.row.toRowW&&l.row.within.isEmpty))=Z7) (m:l.row.prog.bare) (n:l.row.toRowW.promised) (call:WalkO q [] (XL q []) (InK K) l.row.toRowW d [] λf o=>PySem.call f o):l.Holds:=
 holds_law a λz=>holds_open (left (boot_open c g h) le i j) (InK.of b) InK.keeps (λs e=>xl_of s (b6.mp e).1) XL.keeps a1 a2 a3 (λs e=>recFacts_of (b6.mp e).2) a4 z k m n call
end Tp
lay_quick Tp.said
name_quick tsaid for Tp.said by Tp.said_r
namespace Mk
open PySem PySem.Spec PyProof.Rows
abbrev lA:b9:=PySem.Challenge.rw_likebook_k25_least_reasons.row.prog
def wK:b9:=W.view lA [1,2,3,4,5,6,7,8,9,10,11,12,13,15,16,18,19,20,21,22,24,25,26,27,28,30,31,32,33,34,35,36,37,38,39,40,41,42,43,44,45,46,47,48,49,50,51,52,53,54,55,56,57,58,59,60]
def zS:List Addr:=cr 468
def zT:jo->Z5:=Tp.Ko lA 100000 zS
theorem Nm:Tp.PreEq lA W.boot_heap W.boot_drawn W.boot_toks:=by
 intro w os
 kernel_rfl
theorem BQ:Tp.RunA lA wK PySem.Challenge.rw_likebook_k25_least_reasons.row.records W.boot_heap W.boot_drawn W.boot_toks 100000:=by
 rw[PySem.W.Fast.truna_eq];intro w os
 kernel_rfl
theorem BS:Tp.RunB lA zS zT W.boot_heap W.boot_drawn W.boot_toks 100000:=by
 rw[PySem.W.Fast.trunb_eq];intro w os
 kernel_rfl
theorem Nn:Tp.iR lA wK PySem.Challenge.rw_likebook_k25_least_reasons.row.records zS zT W.boot_heap W.boot_drawn W.boot_toks 100000:=Tp.qY BQ BS
end Mk
namespace L2
open PySem PySem.Spec PyProof.Rows
abbrev Key:=Sum Int Str
def uJ:Key->Value->Bool
 |.inl k,v=>Value.isInt k v
 |.inr x,v=>Value.isStrOf x v
def BU (w:World):Key->Int
 |.inl k=>hashInt k
 |.inr x=>hashStr w x
theorem mK:∀{k:Key} {v:Value},uJ k v=Z7->(∃i t,k=Sum.inl i/\v=Value.int i t)\/(∃x t,k=Sum.inr x/\v=Value.str x t)
 |.inl i,v,h=>by obtain⟨t,e⟩:=Value.isInt_shape h;exact .inl ⟨i,t,rfl,e⟩
 |.inr x,v,h=>by obtain⟨t,e⟩:=Value.isStrOf_shape h;exact .inr ⟨x,t,rfl,e⟩
theorem Np (i:Int)(t:Tok):uJ (.inl i) (.int i t)=true:=by simp[uJ,Value.isInt]
theorem Nq (x:Str)(t:Tok):uJ (.inr x) (.str x t)=true:=by simp[uJ,Value.isStrOf]
theorem Nr (a b:Int):decide ((Sum.inl a:Key)=Sum.inl b)=(a==b):=by grind
theorem Nt (a b:Str):decide ((Sum.inr a:Key)=Sum.inr b)=decide (a=b):=by grind
theorem Nu (a:Int)(b:Str):decide ((Sum.inl a:Key)=Sum.inr b)=false:=x4 (λq=>nomatch q)
theorem Nv (a:Str)(b:Int):decide ((Sum.inr a:Key)=Sum.inl b)=false:=x4 (λq=>nomatch q)
def mL (prog:b9)(w:World):PySem.KeyKind prog w Key where
 is:=uJ
 hash:=BU w
 inj:=λv a b ha hb=>by
  rcases mK ha with⟨i,t,rfl,rfl⟩|⟨x,t,rfl,rfl⟩
  .rcases mK hb with⟨j,u,rfl,e⟩|⟨y,u,rfl,e⟩
   .injection e with e1 _;rw[e1]
   .exact nomatch e
  .rcases mK hb with⟨j,u,rfl,e⟩|⟨y,u,rfl,e⟩
   .exact nomatch e
   .injection e with e1 _;rw[e1]
 byValue:=λk v h=>by rcases mK h with⟨i,t,rfl,rfl⟩|⟨x,t,rfl,rfl⟩<;>rfl
 pyHash:=λhv h=>by
  rcases mK hv with⟨i,t,rfl,rfl⟩|⟨x,t,rfl,rfl⟩
  .exact wpAny_pyHash_int h
  .exact wpAny_pyHash_str h
 eqBool:=λhu hv h=>by
  rcases mK hu with⟨i,t,rfl,rfl⟩|⟨x,t,rfl,rfl⟩
  .rcases mK hv with⟨j,u,rfl,rfl⟩|⟨y,u,rfl,rfl⟩
   .rw[Nr]at h;exact wpAny_eqBool_int h
   .rw[Nu]at h;exact SeqAt.EqAt.int_str i t y u _ _ _ _ h
  .rcases mK hv with⟨j,u,rfl,rfl⟩|⟨y,u,rfl,rfl⟩
   .rw[Nv]at h;exact SeqAt.EqAt.str_int x t j u _ _ _ _ h
   .rw[Nt]at h;exact wpAny_eqBool_str h
 «strs»:=λk x t v h=>by
  rcases mK h with⟨i,u,rfl,e⟩|⟨y,u,rfl,e⟩
  .exact nomatch e
  .injection e with e1 _;subst e1;cases v<;>rfl
theorem Nw (prog:b9)(w:World)(i:Int)(t:Tok):(mL prog w).is (.inl i) (.int i t)=true:=Np i t
theorem Ny (prog:b9)(w:World)(x:Str)(t:Tok):(mL prog w).is (.inr x) (.str x t)=true:=Nq x t
inductive V where
 |bK|bl (b:Bool)|int (i:Int)|str (x:Str)|ref (a:Addr)|ty (n:String)
 deriving DecidableEq
def RelV:V->Value->Prop
 |.bK,u=>u=Value.none
 |.bl b,u=>u=Value.bool b
 |.int i,u=>∃t,u=Value.int i t
 |.str x,u=>∃t,u=Value.str x t
 |.ref a,u=>u=ZV a
 |.ty n,u=>u=ZU n
abbrev Vals:List V->List Value->Prop:=wy RelV
theorem Vals.length (r:Vals xs us):xs.length=us.length:=Paired.length r
theorem Vals.get:∀{a:List V} {b:List Value} {i:Nat} {x:V},Vals a b->a[i]?=Z9 x->∃u,b[i]?=Z9 u/\RelV x u
 |_,_,_,_,.nil,e=>by simp at e
 |_,_,0,_,.cons r _,e=>by simp at e;subst e;exact⟨_,rfl,r⟩
 |_,_,i+1,x,.cons _ t,e=>by obtain⟨u,c,d⟩:=Vals.get t (by simpa using e);exact⟨u,by simpa using c,d⟩
theorem Vals.set (r:RelV x u):∀{a:List V} {b:List Value} i,Vals a b->Vals (a.set i x) (b.set i u)
 |_,_,_,.nil=>.nil
 |_,_,0,.cons _ t=>.cons r t
 |_,_,i+1,.cons q t=>.cons q (Vals.set r i t)
theorem Vals.append:∀{a b:List V} {c ws:List Value},Vals a c->Vals b ws->Vals (a++b) (c++ws)
 |_,_,_,_,.nil,s=>s
 |_,_,_,_,.cons r t,s=>.cons r (Vals.append t s)
theorem Vals.take:∀{a:List V} {b:List Value} n,Vals a b->Vals (a.take n) (b.take n)
 |_,_,0,_=>.nil
 |_,_,_+1,.nil=>.nil
 |_,_,n+1,.cons r t=>.cons r (Vals.take n t)
theorem Vals.drop:∀{a:List V} {b:List Value} n,Vals a b->Vals (a.drop n) (b.drop n)
 |_,_,0,r=>r
 |_,_,_+1,.nil=>.nil
 |_,_,n+1,.cons _ t=>Vals.drop n t
theorem Vals.none_of:∀{xs:List V} {us:List Value} {i:Nat},Vals xs us->xs[i]?=Z8->us[i]?=none:=λ{xs us i} r e=>by have h1:=r.length;have h2:=pv.mp e;exact pv.mpr (by omega)
def gC:Option V->Option Value->Prop
 |some v,Z9 u=>RelV v u
 |none,Z8=>True
 |_,_=>False
def KV {κ:Type}:List (κ×V)->List (κ×Value)->Prop:=wy λ(p:κ×V) (q:κ×Value)=>p.1=q.1/\RelV p.2 q.2
def kV:Key->V
 |.inl i=>.int i
 |.inr x=>.str x
inductive HO where
 |lst (xs:List V)
 |tup (xs:List V)
 |dK (kvs:List (Key×V))
 |own (x:Addr)
 |eU (o:Obj) (u:HO)
 |lB (ps:Array Value)
 |ext (φ:Heap->Prop)
abbrev Hp:=Addr->Option HO
def upd (H:Hp)(a:Addr)(o:HO):Hp:=λb=>if b=a then Z9 o else H b
theorem bQ:upd H a o a=Z9 o:=by unfold upd;rw[xp rfl]
theorem aS (h:b≠a):upd H a o b=H b:=by unfold upd;rw[xq h]
theorem dF {H:Hp}(h:H a=Z9 o)(c:H b=Z8):a≠b:=by intro e;subst e;rw[h]at c;cases c
def TupN (h:Heap)(a:Addr)(l:Array Value):Prop:=∃n,h.get? a=Z9 {cls:=.type "tuple",data:=.seq l n}
theorem TupN.tup {h:Heap}{a:Addr}{l:Array Value}(x:TupN h a l):IsTup h a l:=let⟨n,q⟩:=x;⟨_,q,rfl,n,rfl⟩
theorem TupN.new (h:Heap)(l:Array Value):TupN (h.push {cls:=.type "tuple",data:=.seq l}) h.objs.size l:=⟨_,a7 _ rfl⟩
def Nz (h:Heap)(a:Addr)(l:Array Value):Prop:=∃o n,h.get? a=Z9 o/\o.cls=.type "tuple"/\o.dict=Z8/\o.data=.seq l n
section
variable (P:b9)(w:World)
def z16 (H:Hp)(h:Heap)(a:Addr):HO->Prop
 |.lst xs=>xs.length<=bj/\∃(its:List Value) (n:Nat),Vals xs its/\h.get? a=Z9 {cls:=.type "list",data:=.seq its.toArray n}
 |.tup xs=>xs.length<=bj/\∃its:List Value,Vals xs its/\TupN h a its.toArray
 |.dK kvs=>kvs.length<=bj/\(a==o9)=Z6/\∃vs,KV kvs vs/\h.DictOf (mL P w) a vs
 |.own _=>∃o,h.get? a=Z9 o
 |.eU o u=>h.get? a=Z9 o/\z16 H h a u
 |.lB ps=>h.get? a=Z9 {cls:=.none,data:=.fields ps}
 |.ext φ=>φ h/\(∃o,h.get? a=Z9 o)/\∀h1 h2:Heap,φ h1->(∀o,h1.get? a=Z9 o->h2.get? a=Z9 o)->φ h2
def HOk (H:Hp)(h:Heap):Prop:=∀a o,H a=Z9 o->z16 P w H h a o
end
section
variable {P:b9}{w:World}{H H':Hp}{h h':Heap}{a:Addr}{o:HO}
theorem z16.lt (x:z16 P w H h a o):a<h.objs.size:=by
 cases o with
 |lst xs=>obtain⟨_,_,_,_,e⟩:=x;exact bh e
 |tup xs=>obtain⟨_,_,_,_,q⟩:=x;exact bh q
 |dK kvs=>obtain⟨_,_,_,_,o,_,_,e,_⟩:=x;exact bh e
 |own y=>obtain⟨_,e⟩:=x;exact bh e
 |eU ob u=>obtain⟨e,_⟩:=x;exact bh e
 |lB ps=>exact bh x
 |ext φ=>obtain⟨_,⟨_,e⟩,_⟩:=x;exact bh e
theorem z16.stay (x:z16 P w H h a o)(k:∀b u,(b=a\/H b=Z9 (.own a))->h.get? b=Z9 u->h'.get? b=Z9 u)
  (ho:∀b,H b=Z9 (.own a)->H' b=Z9 (.own a)) (ht:∀b xs,H b=Z9 (.tup xs)->H' b=Z9 (.tup xs)):z16 P w H' h' a o:=by
 induction o with
 |lst xs=>obtain⟨z,its,n,r,e⟩:=x;exact⟨z,its,n,r,k _ _ (.inl rfl) e⟩
 |tup xs=>obtain⟨z,l,r,n,q⟩:=x;exact⟨z,l,r,n,k _ _ (.inl rfl) q⟩
 |dK kvs=>obtain⟨z,y,vs,r,ob,es,ep,e,c⟩:=x;exact⟨z,y,vs,r,ob,es,ep,k _ _ (.inl rfl) e,c⟩
 |own y=>obtain⟨ob,e⟩:=x;exact⟨ob,k _ _ (.inl rfl) e⟩
 |eU ob u ih=>obtain⟨e,q⟩:=x;exact⟨k _ _ (.inl rfl) e,ih q⟩
 |lB ps=>have e:h.get? a=Z9 {cls:=.none,data:=.fields ps}:=x;exact k a _ (.inl rfl) e
 |ext φ=>obtain⟨p,⟨o,e⟩,st⟩:=x;exact⟨st _ _ p λo q=>k _ _ (.inl rfl) q,⟨o,k _ _ (.inl rfl) e⟩,st⟩
theorem HOk.lt (x:HOk P w H h)(e:H a=Z9 o):a<h.objs.size:=(x a o e).lt
theorem HOk.fresh (x:HOk P w H h)(e:h.objs.size<=a):H a=none:=by
 cases q:H a with
 |none=>rfl
 |some u=>exact absurd (b8 (x.lt q) e) (cg _)
theorem HOk.kept (x:HOk P w H h)(k:∀b u,h.get? b=Z9 u->h'.get? b=Z9 u):HOk P w H h':=λa o e=>(x a o e).stay (λb u _ q=>k b u q) (λ_ q=>q) λ_ _ q=>q
theorem HOk.laid (x:HOk P w H h)(k:∀b u,h.get? b=Z9 u->h'.get? b=Z9 u)(d:h.objs.size<=a)(new:z16 P w (upd H a o) h' a o):HOk P w (upd H a o) h':=λb u e=>by
 have hn:=x.fresh d;by_cases hb:b=a
 .subst hb;rw[bQ]at e;cases e;exact new
 .rw[aS hb]at e;exact(x b u e).stay (λc v _ q=>k c v q) (λc q=>by rw[aS (dF q hn)];exact q) λc f q=>by rw[aS (dF q hn)];exact q
end
def Rd (H:Hp)(a:Addr)(u:HO):Prop:=H a=Z9 u\/∃o,H a=Z9 (.eU o u)
theorem Rd.ok (r:Rd H a u)(x:HOk P w H h):z16 P w H h a u:=by
 rcases r with r|⟨o,r⟩
 .exact x a u r
 .obtain⟨_,q⟩:=x a _ r;exact q
def Mut:Option HO->Prop
 |some (.lst _)=>True
 |some (.dK _)=>True
 |some (.ext _)=>True
 |_=>False
section
variable {P:b9}{w:World}{H:Hp}{h h':Heap}{x e:Addr}{o':HO}
theorem HOk.write (ok:HOk P w H h)(mu:Mut (H x))(i:e=x\/H e=Z9 (.own x))(k:∀b u,b≠e->h.get? b=Z9 u->h'.get? b=Z9 u)(g:∃u,h'.get? e=Z9 u)
  (new:z16 P w (upd H x o') h' x o'):HOk P w (upd H x o') h':=λb u q=>by
 have d:∀c y,H c=Z9 (.own y)->c≠x:=λc y r z=>by subst z;rw[r]at mu;exact mu
 by_cases hb:b=x
 .subst hb;rw[bQ]at q;cases q;exact new
 .rw[aS hb]at q;by_cases a:b=e
  .have j:H b=Z9 (.own x):=by
    rcases i with z|z
    .exact absurd (a.trans z) hb
    .rw[a];exact z
   rw[q]at j;cases j;obtain⟨v,m⟩:=g;exact⟨v,by rw[a];exact m⟩
  .refine(ok b u q).stay (λc v f r=>k c v ?_ r) (λc r=>by rw[aS (d c b r)];exact r) λc l r=>by rw[aS ((λc l r z=>by subst z;rw[r]at mu;exact mu) c l r)];exact r
   rcases f with rfl|f
   .exact a
   .rintro rfl
    rcases i with z|z
    .exact d c b f z
    .rw[f]at z;cases z;exact hb rfl
end
structure Un (fs ex:List Addr)(H H':Hp)(h h':Heap):Prop where
 keep:∀b o,h.get? b=Z9 o->H b=Z8->b∉fs->b∉ex->h'.get? b=Z9 o
 slot:∀b o,h.get? b=Z9 o->H b=Z8->b∈fs->b∉ex->∃sl,h'.get? b=Z9 {o with slots:=sl}
 free:∀b o,h.get? b=Z9 o->H b=Z8->b∉ex->H' b=Z8
 there:∀b o,h.get? b=Z9 o->b∉ex->∃o',h'.get? b=Z9 o'
 cN:∀b xs,H b=Z9 (.tup xs)->H' b=Z9 (.tup xs)
 bZ:∀b o u,H b=Z9 (.eU o u)->H' b=Z9 (.eU o u)
 cO:∀b ps,H b=Z9 (.lB ps)->∃more,H' b=Z9 (.lB (ps++more))
section
variable {fs Yy ex Yz:List Addr}{H H1 H2:Hp}{h h1 h2 h':Heap}{a x e:Addr}{o:HO}
theorem Un.any (u:Un fs ex H H1 h h1)(q:h.get? b=Z9 ob)(n:H b=Z8)(hx:b∉ex):∃sl,h1.get? b=Z9 {ob with slots:=sl}:=by
 by_cases hb:b∈fs
 .exact u.slot b ob q n hb hx
 .exact⟨ob.slots,u.keep b ob q n hb hx⟩
theorem Un.kept (k:∀b u,h.get? b=Z9 u->h'.get? b=Z9 u):Un fs ex H H h h':=⟨λb a q _ _ _=>k b a q,λb a q _ _ _=>⟨a.slots,k b a q⟩,λ_ _ _ n _=>n,λb a q _=>⟨a,k b a q⟩,λ_ _ q=>q,λ_ _ _ q=>q,λ_ ps q=>⟨#[],by rw[q];simp⟩⟩
theorem Un.refl:Un fs ex H H h h:=Un.kept λ_ _ q=>q
theorem Un.laid (k:∀b u,h.get? b=Z9 u->h'.get? b=Z9 u)(c:h.objs.size<=a)(hn:H a=Z8):Un fs ex H (upd H a o) h h' where
 keep:=λb u q _ _ _=>k b u q
 slot:=λb u q _ _ _=>⟨u.slots,k b u q⟩
 free:=λb u q n _=>by rw[aS (br (b8 (bh q) c))];exact n
 there:=λb u q _=>⟨u,k b u q⟩
 cN:=λb d q=>by rw[aS (dF q hn)];exact q
 bZ:=λb u d q=>by rw[aS (dF q hn)];exact q
 cO:=λb ps q=>⟨#[],by rw[aS (dF q hn),q];simp⟩
theorem Un.write (mu:Mut (H x))(d:e=x\/H e=Z9 (.own x))(k:∀b u,b≠e->h.get? b=Z9 u->h'.get? b=Z9 u)(c:∃u,h'.get? e=Z9 u):Un fs ex H (upd H x o) h h':=by
 have hx:∀b,H b=Z8->b≠x:=λb n z=>by subst z;rw[n]at mu;exact mu
 have hb:∀b,H b=Z8->b≠e:=λb n z=>by
  subst z;rcases d with r|r
  .exact hx b n r
  .rw[n]at r;cases r
 have hm:∀b u,H b=Z9 u->¬Mut (Z9 u)->b≠x:=λb u q nm z=>by subst z;rw[q]at mu;exact nm mu
 refine⟨λb u q n _ _=>k b u (hb b n) q,λb u q n _ _=>⟨u.slots,k b u (hb b n) q⟩,λb u q n _=>by rw[aS (hx b n)];exact n,λb u q _=>?_,λb f q=>by rw[aS (hm b _ q λz=>z)];exact q,λb u f q=>by rw[aS (hm b _ q λz=>z)];exact q,λb ps q=>⟨#[],by rw[aS (hm b _ q λz=>z),q];simp⟩⟩;by_cases a:b=e
 .subst a;exact c
 .exact⟨u,k b u a q⟩
end
def BV (h:Heap)(H:Hp):List Addr:=(cr h.objs.size).filter λa=>(H a).isSome
def jG (h:Heap)(H:Hp):Heap:=W.hideAll h (BV h H)
theorem NA (h:Heap)(H:Hp):(jG h H).objs.size=h.objs.size:=W.hideAll_size _ _
theorem NB (e:h.get? b=Z9 o)(n:H b=Z8):(jG h H).get? b=Z9 o:=W.hideAll_get _ e λhm=>by have q:=(ce.mp hm).2;rw[n]at q;simp at q
theorem NC (e:(jG h H).get? b=Z9 o):h.get? b=Z9 o/\H b=none:=by
 have a:=W.of_hideAll (BV h H) e;refine⟨a,?_⟩;cases q:H b with
 |none=>rfl
 |some x=>have z:(jG h H).get? b=none:=W.hideAll_none (BV h H) (ce.mpr ⟨iy.mpr (bh a),by simp[q]⟩);rw[z]at e;cases e
def wL (g h:Heap)(L:Addr):List (Addr×Obj):=(cr h.objs.size).filterMap λa=>if a=L\/(g.get? a).isSome=Z7 then Z8 else(h.get? a).map λo=>(a,o)
theorem BW (c:a≠L)(d:g.get? a=Z8)(b:h.get? a=Z9 o):(a,o)∈wL g h L:=fg.mpr ⟨a,iy.mpr (bh b),by simp[c,d,b]⟩
theorem ND (a:p∈wL g h L):p.1≠L/\g.get? p.1=Z8/\h.get? p.1=Z9 p.2:=by
 obtain⟨b,_,e⟩:=fg.mp a;split at e
 .cases e
 .rename_i hn;cases q:h.get? b with
  |none=>rw[q]at e;simp at e
  |some u=>
   rw[q]at e;simp at e;subst e;refine⟨λz=>hn (.inl z),?_,q⟩;cases r:g.get? b with
   |none=>rfl
   |some v=>exact(hn (.inr (by simp[r]))).elim
def rest (g h:Heap)(L d:Addr):List (Addr×Obj):=(wL g h L).filter λp=>decide (p.1≠d)
theorem Hg:∀p∈rest g h L d,p.1≠d:=λp a=>xv (ce.mp a).2
theorem NF (b:a≠L)(c:g.get? a=Z8)(e:h.get? a=Z9 o)(f:a≠d):(a,o)∈rest g h L d:=ce.mpr ⟨BW b c e,xz f⟩
theorem Hh:News g L h (wL g h L):=λp d=>let⟨a,b,c⟩:=ND d;⟨c,a,b⟩
theorem nN (b:d≠L)(c:g.get? d=Z8)(e:h.get? d=Z9 o):News g L h ((d,o)::rest g h L d):=λp a=>by
 rcases aw.mp a with rfl|a
 .exact⟨e,b,c⟩
 .exact Hh p (ce.mp a).1
theorem z7e (k:∀b o,g.get? b=Z9 o->h.get? b=Z9 o)(F:Fr g L a m)(N:News g L a (rest g h L d)):
  ∀b o,b≠L->b≠d->h.get? b=Z9 o->a.get? b=Z9 o:=λb o c f e=>by
 cases q:g.get? b with
 |some u=>have:=k b u q;rw[e]at this;cases this;exact F.keep b _ q
 |none=>exact(N (b,o) (NF c q e f)).1
structure Mod (K:Z5)(mg:Str->Option Value)(base:Heap):Prop where
 uK:K.In base
 glob:base.Ns ci mg
 blt:∃mb,base.Ns wz mb/\∀x:Str,x≠"__name__"->mb x=c9 x
 nolimit:base.NoLimit
structure Cx where
 prog:b9
 w:World
 K:Z5
 mg:Str->Option Value
 base:Heap
 A:dh
 N:List Str
 s₀:ao
 eV:Hp
 env:Env
 outer:List Env
 stack:List Env
 ex:List Addr
 fn:Str->Bool
 calm:Bool
 pn:List (Addr×Obj)
 xe:Value->ao->Prop
 fx:Option (Str×Value):=Z8
def frs (l:List Env):List Addr:=l.filterMap (·.frame)
abbrev Cx.fs (X:Cx):List Addr:=frs X.outer
def Vis (sc:Scope)(x:Str):Prop:=sc.names.lookup x=Z9 .local\/sc.names.lookup x=Z9 .cell\/sc.names.lookup x=Z9 .free
def Loc (sc:Scope)(x:Str):Prop:=sc.names.lookup x=Z9 .local\/sc.names.lookup x=Z9 .cell
def Look (env:Env)(h:Heap)(m:Str->Option Value)(x:Str)(u:Value):Prop:=(env.kindOf x=Z9 .local/\m x=Z9 u)\/((env.kindOf x=Z9 .cell\/env.kindOf x=Z9 .free)/\∃c,env.cells.lookup x=Z9 c/\h.IsCell c (Z9 u))
structure Cx.Ok (X:Cx):Prop where
 mod:Mod X.K X.mg X.base
 kind:X.env.scope.kind=.function
 glob:X.env.globals=ci
 blt:X.env.builtins=wz
 above:X.s₀.heap.objs.size<=X.env.locals
 inj:∀x y c,X.env.cells.lookup x=Z9 c->X.env.cells.lookup y=Z9 c->x=y
 has:∀x,(X.env.kindOf x=Z9 .cell\/X.env.kindOf x=Z9 .free)->∃c,X.env.cells.lookup x=Z9 c
 pU:∀x c,X.fn x=Z7->X.env.cells.lookup x=Z9 c->X.s₀.heap.objs.size<=c
 hd:X.calm=Z7->X.A.handled=Z8
 frames:X.A.frames=Z9 X.stack
 qZ:X.stack=X.outer\/(X.stack=X.env::X.outer/\X.env.frame=Z9 X.env.locals)
 rA:∀b∈X.ex,b≠X.env.locals/\∀x c,X.env.cells.lookup x=Z9 c->c≠b
 bs:∀b o,X.base.get? b=Z9 o->X.s₀.heap.get? b=Z9 o/\X.eV b=Z8
 iS:X.base.objs.size<=X.s₀.heap.objs.size
 gD:∀b o,X.base.get? b=Z9 o->b∉X.ex
 gF:∀b∈X.ex,b∉X.fs
 cP:X.s₀.heap.FunFrames X.base X.outer
 nO:∀b∈X.fs,X.eV b=Z8
 zU:∀x u,X.fx=Z9 (x,u)->x∉X.N/\X.env.scope.names.lookup x=Z9 .local
structure Inv (X:Cx)(pins:List (Addr×Obj))(σ:List (Option V))(H:Hp)(s:ao):Prop where
 ok:X.Ok
 os:s.os=X.s₀.os
 bare:o5 s.gens
 base:Un X.fs X.ex X.eV H X.s₀.heap s.heap
 loc:∃m,s.heap.Ns X.env.locals m/\∀(i:Nat) (x:Str) (v:V),X.N[i]?=Z9 x->σ[i]?=Z9 (Z9 v)->Vis X.env.scope x->∃u,RelV v u/\Look X.env s.heap m x u
 cell:∀x c,X.env.cells.lookup x=Z9 c->∃v,s.heap.IsCell c v
 free:H X.env.locals=Z8
 bD:∀x c,X.env.cells.lookup x=Z9 c->H c=Z8
 pin:∀p∈X.pn++pins,s.heap.get? p.1=Z9 p.2/\H p.1=Z8/\p.1≠X.env.locals/\p.1∉X.fs/\∀v,p.2.data≠.cell v
 hok:HOk X.prog X.w H s.heap
 len:σ.length=X.N.length
 fx:∀x u,X.fx=Z9 (x,u)->∃m,s.heap.Ns X.env.locals m/\m x=Z9 u
section
variable {X:Cx}{pins:List (Addr×Obj)}{σ:List (Option V)}{H H':Hp}{s:ao}{h':Heap}
theorem Cx.Ok.wM (ok:X.Ok)(e:X.base.get? b=Z9 o):b∉X.fs:=λhb=>by have:=(ok.cP.mem hb).1;rw[e]at this;cases this
theorem Inv.bs (I:Inv X pins σ H s):∀b o,X.base.get? b=Z9 o->s.heap.get? b=Z9 o/\H b=none:=λb o e=>⟨I.base.keep b o (I.ok.bs b o e).1 (I.ok.bs b o e).2 (I.ok.wM e) (I.ok.gD b o e),I.base.free b o (I.ok.bs b o e).1 (I.ok.bs b o e).2 (I.ok.gD b o e)⟩
theorem Inv.bk (I:Inv X pins σ H s):∀b o,X.base.get? b=Z9 o->s.heap.get? b=Z9 o:=λb o e=>(I.bs b o e).1
theorem Inv.mod (I:Inv X pins σ H s):Mod X.K X.mg X.base:=I.ok.mod
theorem Inv.eN (I:Inv X pins σ H s):X.K.In s.heap:=I.ok.mod.uK.keeps I.bk
theorem Inv.fr (I:Inv X pins σ H s):∃m,Fr X.base X.env.locals s.heap m:=
 let⟨m,hn,_⟩:=I.loc
 ⟨m,hn,I.bk,bo I.ok.iS I.ok.above⟩
theorem Inv.lt (I:Inv X pins σ H s):X.env.locals<s.heap.objs.size:=let⟨_,hn,_⟩:=I.loc;hn.lt
theorem Inv.sz (I:Inv X pins σ H s):X.s₀.heap.objs.size<=s.heap.objs.size:=bo I.ok.above (mq I.lt)
theorem Inv.wN (I:Inv X pins σ H s)(h:s.heap.objs.size<=a):a∉X.fs:=λhb=>by obtain⟨_,o,ho,_⟩:=I.ok.cP.mem hb;exact absurd (b8 (bh ho) (bo I.sz h)) (cg _)
theorem Inv.kN (I:Inv X pins σ H s):∀x c,X.env.cells.lookup x=Z9 c->c≠X.env.locals:=λx c e z=>by obtain⟨v,o,ho,hd⟩:=I.cell x c e;obtain⟨m,⟨d,es,ep,a,b,_⟩,_⟩:=I.loc;rw[z,a]at ho;cases ho;rw[b]at hd;cases hd
theorem Inv.cP (I:Inv X pins σ H s):s.heap.FunFrames X.base X.outer:=by
 have all:∀l,(∀b∈frs l,b∈X.fs)->X.s₀.heap.FunFrames X.base l->s.heap.FunFrames X.base l:=by
  intro l
  induction l with
  |nil=>intro _ _;trivial
  |cons env r c=>
   rintro hs ⟨hk,⟨L,o,hf,hn,ho,hd⟩,hr⟩
   have a:=hs L (by unfold frs;rw[c8,hf];exact ah);obtain⟨sl,e⟩:=I.base.slot L o ho (I.ok.nO L a) a λz=>I.ok.gF L z a;exact⟨hk,⟨L,_,hf,hn,e,hd⟩,c (λb hb=>hs b (by unfold frs;rw[c8,hf];exact av _ hb)) hr⟩
 exact all X.outer (λ_ hb=>hb) I.ok.cP
theorem Inv.stack (I:Inv X pins σ H s):s.heap.FunFrames X.base X.stack:=by
 rcases I.ok.qZ with e|⟨e,hf⟩
 .rw[e];exact I.cP
 .rw[e];obtain⟨m,hn,_⟩:=I.loc;refine .cons (by rw[I.ok.kind];decide) hf hn ?_ I.cP;exact si (bo I.ok.iS I.ok.above)
theorem Inv.fL (I:Inv X pins σ H s):∀b∈frs X.stack,b∈X.env.locals::X.fs:=λb hb=>by
 rcases I.ok.qZ with e|⟨e,hf⟩
 .rw[e]at hb;simp_all
 .rw[e]at hb;unfold frs at hb;rw[c8,hf]at hb;exact hb
theorem Inv.fM (I:Inv X pins σ H s):∀b∈frs X.stack,H b=none:=λb hb=>by
 rcases aw.mp (I.fL b hb)with e|hb
 .rw[e];exact I.free
 .obtain⟨_,o,ho,_⟩:=I.ok.cP.mem hb;exact I.base.free b o ho (I.ok.nO b hb) λz=>I.ok.gF b z hb
theorem Inv.step {ch:List Addr}(I:Inv X pins σ H s)
  (a:∀b∈ch,(b∈X.ex\/X.s₀.heap.objs.size<=b)/\b≠X.env.locals/\(∀x c,X.env.cells.lookup x=Z9 c->c≠b)/\∀p∈X.pn++pins,p.1≠b)
  (keep:∀b o,b≠X.env.locals->b∉X.fs->b∉ch->s.heap.get? b=Z9 o->H b=Z8->h'.get? b=Z9 o)
  (slot:∀b o,b≠X.env.locals->b∈X.fs->b∉ch->s.heap.get? b=Z9 o->H b=Z8->∃sl,h'.get? b=Z9 {o with slots:=sl}) (free:∀b o,b∉ch->s.heap.get? b=Z9 o->H b=Z8->H' b=Z8)
  (there:∀b o,b∉ch->s.heap.get? b=Z9 o->∃y,h'.get? b=Z9 y)
  (cN:∀b t,H b=Z9 (.tup t)->H' b=Z9 (.tup t)) (bZ:∀b o u,H b=Z9 (.eU o u)->H' b=Z9 (.eU o u)) (cO:∀b ps,H b=Z9 (.lB ps)->∃A,H' b=Z9 (.lB (ps++A)))
  (ns:∀m,s.heap.Ns X.env.locals m->h'.Ns X.env.locals m) (hok:HOk X.prog X.w H' h') (J:o5 g'):
  Inv X pins σ H' {s with heap:=h',gens:=g',drawn:=d',toks:=t'}:=by
 have B:∀b o,X.s₀.heap.get? b=Z9 o->b≠X.env.locals:=λb o e=>br (b8 (bh e) I.ok.above)
 have h:∀b o,X.s₀.heap.get? b=Z9 o->b∉X.ex->b∉ch:=λb o e hx hb=>by
  rcases(a b hb).1 with z|z
  .exact hx z
  .exact absurd (b8 (bh e) z) (cg _)
 have f:∀x c,X.env.cells.lookup x=Z9 c->∀v,s.heap.IsCell c v->h'.IsCell c v:=λx c e v ⟨o,ho,hd⟩=>by
  have g:=λz=>(a c z).2.2.1 x c e rfl;by_cases E:c∈X.fs
  .obtain⟨sl,q⟩:=slot c o (I.kN x c e) E g ho (I.bD x c e);exact⟨_,q,hd⟩
  .exact⟨o,keep c o (I.kN x c e) E g ho (I.bD x c e),hd⟩
 refine⟨I.ok,I.os,J,⟨λb o e n hb hx=>?_,λb o e n hb hx=>?_,λb o e n hx=>?_,λb o e hx=>?_,λb t e=>cN b t (I.base.cN b t e),λb o t e=>bZ b o t (I.base.bZ b o t e),λb ps e=>?_⟩,?_,λx c e=>?_,?_,λx c e=>?_,λp F=>?_,hok,I.len,λx u e=>let⟨m,hn,q⟩:=I.fx x u e;⟨m,ns m hn,q⟩⟩
 .exact keep b o (B b o e) hb (h b o e hx) (I.base.keep b o e n hb hx) (I.base.free b o e n hx)
 .obtain⟨sl,j⟩:=I.base.slot b o e n hb hx;obtain⟨D,C⟩:=slot b _ (B b o e) hb (h b o e hx) j (I.base.free b o e n hx);exact⟨D,C⟩
 .obtain⟨y,j⟩:=I.base.there b o e hx;exact free b y (h b o e hx) j (I.base.free b o e n hx)
 .obtain⟨y,j⟩:=I.base.there b o e hx;exact there b y (h b o e hx) j
 .obtain⟨K,j⟩:=I.base.cO b ps e;obtain⟨L,C⟩:=cO b _ j;exact⟨K++L,by rw[C,uo]⟩
 .obtain⟨m,hn,hl⟩:=I.loc;refine⟨m,ns m hn,λi x v j C M=>?_⟩;obtain⟨u,r,l⟩:=hl i x v j C M;refine⟨u,r,?_⟩;rcases l with l|⟨k,c,e,z⟩
  .exact .inl l
  .exact .inr ⟨k,c,e,f x c e _ z⟩
 .obtain⟨v,z⟩:=I.cell x c e;exact⟨v,f x c e v z⟩
 .obtain⟨m,⟨o,_,_,ho,_⟩,_⟩:=I.loc;exact free _ o (λz=>(a _ z).2.1 rfl) ho I.free
 .obtain⟨v,o,ho,hd⟩:=I.cell x c e;exact free c o (λz=>(a c z).2.2.1 x c e rfl) ho (I.bD x c e)
 .obtain⟨e,n,ne,G,d⟩:=I.pin p F;have g:=λz=>(a p.1 z).2.2.2 p F rfl;exact⟨keep p.1 p.2 ne G g e n,free p.1 p.2 g e n,ne,G,d⟩
theorem Inv.un (I:Inv X pins σ H s)(u:Un X.fs [] H H' s.heap h')(hok:HOk X.prog X.w H' h'):Inv X pins σ H' {s with heap:=h',toks:=t'}:=by obtain⟨m,⟨o,es,ep,ho,r⟩,_⟩:=id I.loc;obtain⟨sl,f⟩:=u.any ho I.free (by simp);exact I.step (ch:=[]) (λ_ z=>nomatch z) (λb o _ hb _ e n=>u.keep b o e n hb (by simp)) (λb o _ hb _ e n=>u.slot b o e n hb (by simp)) (λb o _ e n=>u.free b o e n (by simp)) (λb o _ e=>u.there b o e (by simp)) u.cN u.bZ u.cO (λh ⟨i,c,d,a,g⟩=>by rw[ho]at a;cases a;exact⟨_,c,d,f,g⟩) hok I.bare
theorem Inv.call (I:Inv X pins σ H s)(u:Un (frs X.stack) ch H H' s.heap h')(hok:HOk X.prog X.w H' h')(j:o5 k)
  (d:∀b∈ch,(b∈X.ex\/X.s₀.heap.objs.size<=b)/\b≠X.env.locals/\(∀x c,X.env.cells.lookup x=Z9 c->c≠b)/\∀p∈X.pn++pins,p.1≠b):
  Inv X pins σ H' {s with heap:=h',gens:=k,drawn:=d',toks:=t'}:=by
 obtain⟨m,⟨o,es,ep,ho,r⟩,_⟩:=id I.loc;obtain⟨sl,g⟩:=u.any ho I.free λz=>(d _ z).2.1 rfl;exact I.step d (λb o g hb a e n=>u.keep b o e n (λz=>(aw.mp (I.fL b z)).elim g hb) a) (λb o _ _ a e n=>u.any e n a) (λb o a e n=>u.free b o e n a) (λb o a e=>u.there b o e a) u.cN u.bZ u.cO (λq ⟨t,h,i,f,l⟩=>by rw[ho]at f;cases f;exact⟨_,h,i,g,l⟩) hok j
theorem Inv.turned (I:Inv X pins σ H s)(k:∀b o,b≠a->s.heap.get? b=Z9 o->h'.get? b=Z9 o)(hn:H a=Z8)(g:a≠X.env.locals)
  (h:a∈X.ex\/X.s₀.heap.objs.size<=a) (i:∀x c,X.env.cells.lookup x=Z9 c->c≠a) (j:∀p∈X.pn++pins,p.1≠a):Inv X pins σ H {s with heap:=h',toks:=t'}:=by
 have f:∀b u,H b=Z9 u->b≠a:=λb u e z=>by rw[z,hn]at e;cases e
 refine I.step (ch:=[a]) (λb hb=>?_) (λb o _ _ d e _=>k b o (λz=>d (by simp[z])) e) (λb o _ _ d e _=>⟨o.slots,k b o (λz=>d (by simp[z])) e⟩) (λ_ _ _ _ n=>n) (λb o d e=>⟨o,k b o (λz=>d (by simp[z])) e⟩) (λ_ _ e=>e) (λ_ _ _ e=>e) (λb ps e=>⟨#[],by rw[e];simp⟩) (λm hm=>?_) (λb u e=>?_) I.bare
 .have e:b=a:=by simpa using hb
  subst e;exact⟨h,g,i,j⟩
 .obtain⟨o,es,ep,ho,r⟩:=hm;exact⟨o,es,ep,k _ o (Ne.symm g) ho,r⟩
 .refine(I.hok b u e).stay (λc v d q=>k c v ?_ q) (λ_ q=>q) λ_ _ q=>q;rcases d with z|z
  .rw[z];exact f b u e
  .exact f c _ z
theorem Inv.tok (I:Inv X pins σ H s)(t:Nat):Inv X pins σ H {s with toks:=t}:=I.un (h':=s.heap) (t':=t) Un.refl I.hok
theorem Inv.kept (I:Inv X pins σ H s)(k:∀b u,s.heap.get? b=Z9 u->h'.get? b=Z9 u):Inv X pins σ H {s with heap:=h',toks:=t'}:=I.un (Un.kept k) (I.hok.kept k)
theorem Inv.laid (I:Inv X pins σ H s)(k:∀b u,s.heap.get? b=Z9 u->h'.get? b=Z9 u)(c:s.heap.objs.size<=a)(new:z16 X.prog X.w (upd H a o) h' a o): Inv X pins σ (upd H a o) {s with heap:=h',toks:=t'}:=I.un (Un.laid k c (I.hok.fresh c)) (I.hok.laid k c new)
theorem Inv.write (I:Inv X pins σ H s)(mu:Mut (H x))(c:e=x\/H e=Z9 (.own x))(k:∀b u,b≠e->s.heap.get? b=Z9 u->h'.get? b=Z9 u)(a:∃u,h'.get? e=Z9 u) (new:z16 X.prog X.w (upd H x o) h' x o):Inv X pins σ (upd H x o) {s with heap:=h',toks:=t'}:=I.un (Un.write mu c k a) (I.hok.write mu c k a new)
theorem Inv.weak (I:Inv X pins σ H s)(hl:a.length=σ.length)(w:∀(i:Nat) v,a[i]?=Z9 (Z9 v)->σ[i]?=Z9 (Z9 v)):Inv X pins a H s:=⟨I.ok,I.os,I.bare,I.base,let⟨m,hn,uL⟩:=I.loc;⟨m,hn,λi x v b c d=>uL i x v b (w i v c) d⟩,I.cell,I.free,I.bD,I.pin,I.hok,hl.trans I.len,I.fx⟩
theorem Inv.dM (I:Inv X pins σ H s)(h:∀p∈wO,s.heap.get? p.1=Z9 p.2/\H p.1=Z8/\p.1≠X.env.locals/\p.1∉X.fs/\∀v,p.2.data≠.cell v):Inv X wO σ H s:=⟨I.ok,I.os,I.bare,I.base,I.loc,I.cell,I.free,I.bD,λp a=>(cf.mp a).elim (λz=>I.pin p (cx _ z)) (h p),I.hok,I.len,I.fx⟩
theorem NG {h:Heap}(x:h.Ns a m)(y:h.Ns a g)(n:Str):m n=g n:=by obtain⟨o,es,ep,e,d,_,f⟩:=x;obtain⟨l,i,j,b,c,_,k⟩:=y;rw[e]at b;cases b;rw[d]at c;cases c;rw[<-f n,k n]
theorem wQ {N:List Str}(hN:N.Nodup){j:Nat}(a:N[i]?=Z9 x)(b:N[j]?=Z9 x):i=j:=by obtain⟨e,c⟩:=bc.mp a;obtain⟨f,d⟩:=bc.mp b;exact(List.getElem_inj hN).mp (c.trans d.symm)
theorem z4o (I:Inv X pins σ H s)(hN:X.N.Nodup)(hi:X.N[i]?=Z9 x)(hx:Loc X.env.scope x)(r:RelV v u)
  (h:∀s',Inv X pins (σ.set i (Z9 v)) H s'->(∃a,bu a s.heap s'.heap/\(a=X.env.locals\/X.env.cells.lookup x=Z9 a))->Q () s') (hf:X.fn x=Z7\/X.env.scope.names.lookup x=Z9 .local:=by first|exact .inl rfl|exact .inr rfl|assumption):wpAny M A (storeName X.env x u) Q E s:=by
 obtain⟨m,hn,hl⟩:=id I.loc;have wR:i<σ.length:=I.len▸(bc.mp hi).1;have kN:=I.kN
 have tracked:∀{a:Addr} {h':Heap},(∃o,s.heap.get? a=Z9 o/\H a=Z8)->bu a s.heap h'->HOk X.prog X.w H h':=λ{a h'} ha hs b ob e=>by
  obtain⟨_,_,pV⟩:=ha;refine(I.hok b ob e).stay (λc w' hc q=>(hs.2 c ?_).trans q) (λ_ q=>q) λ_ _ q=>q
  rintro rfl
  rcases hc with rfl|hc
  .rw[pV]at e;cases e
  .rw[pV]at hc;cases hc
 rcases hx with hk|hk
 .refine wpAny_storeName_local hk hn (λh' nQ hs=>?_) (by rw[I.ok.kind];rfl);obtain⟨oL,_,_,NH,_⟩:=id hn;refine h _ ⟨I.ok,I.os,I.bare,⟨λb o e n hb hx=>?_,λb o e n hb hx=>?_,I.base.free,λb o e hx=>?_,I.base.cN,I.base.bZ,I.base.cO⟩,⟨_,nQ,λj y v' e1 e2 e3=>?_⟩,λy c e=>?_,I.free,I.bD,λp hp=>?_,tracked ⟨oL,NH,I.free⟩ hs,by simpa using I.len,λy u e=>by obtain⟨m',hn2,q⟩:=I.fx y u e;refine⟨_,nQ,?_⟩;have hy:y≠x:=λz=>(I.ok.zU y u e).1 (z▸bx hi);have:=NG hn hn2 y;simp[hy,this,q]⟩ ⟨_,hs,.inl rfl⟩
  .exact(hs.2 b (br (b8 (bh e) I.ok.above))).trans (I.base.keep b o e n hb hx)
  .obtain⟨sl,e1⟩:=I.base.slot b o e n hb hx;exact⟨sl,(hs.2 b (br (b8 (bh e) I.ok.above))).trans e1⟩
  .obtain⟨o',e1⟩:=I.base.there b o e hx;exact⟨o',(hs.2 b (br (b8 (bh e) I.ok.above))).trans e1⟩
  .by_cases hj:j=i
   .subst hj;rw[hi]at e1;cases e1;rw[cz wR]at e2;cases e2;exact⟨u,r,.inl ⟨hk,by simp⟩⟩
   .rw[bz (Ne.symm hj)]at e2;obtain⟨u',r',q⟩:=hl j y v' e1 e2 e3;refine⟨u',r',?_⟩;rcases q with⟨k,e⟩|⟨k,c,e,z⟩
    .refine .inl ⟨k,?_⟩;have:y≠x:=λe=>hj (wQ hN e1 (e▸hi));simp[this,e]
    .exact .inr ⟨k,c,e,z.sameBut hs (kN y c e)⟩
  .obtain⟨w',z⟩:=I.cell y c e;exact⟨w',z.sameBut hs (kN y c e)⟩
  .obtain⟨e,n,ne,nf,d⟩:=I.pin p hp;exact⟨(hs.2 p.1 ne).trans e,n,ne,nf,d⟩
 .have hfn:X.fn x=true:=by
   rcases hf with z|z
   .exact z
   .rw[z]at hk;cases hk
  obtain⟨c,hc⟩:=I.ok.has x (.inl hk);obtain⟨w',z⟩:=I.cell x c hc;refine wpAny_storeName_cell I.ok.kind hk hc z (λh' iB hs=>?_);obtain⟨oc,uM,nR⟩:=id z;refine h {s with heap:=h'} ⟨I.ok,I.os,I.bare,⟨λb o e n hb hx=>?_,λb o e n hb hx=>?_,I.base.free,λb o e hx=>?_,I.base.cN,I.base.bZ,I.base.cO⟩,⟨m,hn.sameBut hs (Ne.symm (kN x c hc)),λj y v' e1 e2 e3=>?_⟩,λy c' e=>?_,I.free,I.bD,λp hp=>?_,tracked ⟨oc,uM,I.bD x c hc⟩ hs,by simpa using I.len,λy u e=>let⟨m',hn2,q⟩:=I.fx y u e;⟨m',hn2.sameBut hs (Ne.symm (kN x c hc)),q⟩⟩ ⟨c,hs,.inr hc⟩
  .exact(hs.2 b (br (b8 (bh e) (I.ok.pU x c hfn hc)))).trans (I.base.keep b o e n hb hx)
  .obtain⟨sl,e1⟩:=I.base.slot b o e n hb hx;exact⟨sl,(hs.2 b (br (b8 (bh e) (I.ok.pU x c hfn hc)))).trans e1⟩
  .obtain⟨o',e1⟩:=I.base.there b o e hx;exact⟨o',(hs.2 b (br (b8 (bh e) (I.ok.pU x c hfn hc)))).trans e1⟩
  .by_cases hj:j=i
   .subst hj;rw[hi]at e1;cases e1;rw[cz wR]at e2;cases e2;exact⟨u,r,.inr ⟨.inl hk,c,hc,iB⟩⟩
   .rw[bz (Ne.symm hj)]at e2;obtain⟨u',r',q⟩:=hl j y v' e1 e2 e3;refine⟨u',r',?_⟩;rcases q with q|⟨k,c',e,z'⟩
    .exact .inl q
    .refine .inr ⟨k,c',e,z'.sameBut hs ?_⟩
     rintro rfl
     exact hj (wQ hN e1 (I.ok.inj _ _ _ e hc▸hi))
  .by_cases Hi:c'=c
   .subst Hi;exact⟨_,iB⟩
   .obtain⟨w2,z2⟩:=I.cell y c' e;exact⟨w2,z2.sameBut hs Hi⟩
  .obtain⟨e,n,ne,nf,d⟩:=I.pin p hp;refine⟨(hs.2 p.1 ?_).trans e,n,ne,nf,d⟩;intro q;rw[q,uM]at e;exact d w' (xr e▸nR)
theorem z6f (I:Inv X pins σ H s)(hN:X.N.Nodup)(hi:X.N[i]?=Z9 x)(hx:Loc X.env.scope x)(r:RelV v u)
  (h:∀s',Inv X pins (σ.set i (Z9 v)) H s'->Q () s') (hf:X.fn x=Z7\/X.env.scope.names.lookup x=Z9 .local:=by first|exact .inl rfl|exact .inr rfl|assumption):wpAny M A (storeName X.env x u) Q E s:=
 z4o I hN hi hx r (λs' I' _=>h s' I') hf
theorem Inv.call' (I:Inv X pins σ H s)(ho:a.os=s.os)(u:Un (frs X.stack) e H H' s.heap a.heap)(hok:HOk X.prog X.w H' a.heap)(f:o5 a.gens)
  (d:∀b∈e,(b∈X.ex\/X.s₀.heap.objs.size<=b)/\b≠X.env.locals/\(∀x c,X.env.cells.lookup x=Z9 c->c≠b)/\∀p∈X.pn++pins,p.1≠b):Inv X pins σ H' a:=by
 obtain⟨h',g,h,i,j⟩:=a;subst ho;exact I.call u hok f d
end
abbrev XK:=Value->Option Addr->Hp->Prop
abbrev St:=List (Option V)
abbrev VK:=V->Hp->Prop
abbrev TE:=St->Hp->VK->Prop
abbrev TT:=St->Hp->(Bool->Hp->Prop)->Prop
abbrev TA:=St->Hp->(List V->Hp->Prop)->Prop
structure Ends where
 nx:St->Hp->Prop
 rt:VK
 bk:St->Hp->Prop:=λ_ _=>False
 ct:St->Hp->Prop:=λ_ _=>False
abbrev TS:=Ends->St->Hp->Prop
def EP (X:Cx)(pins:List (Addr×Obj))(σ:St)(Q:VK)(u:Value)(s':ao):Prop:=∃v H',Inv X pins σ H' s'/\RelV v u/\Q v H'
def TP (X:Cx)(pins:List (Addr×Obj))(σ:St)(Q:Bool->Hp->Prop)(b:Bool)(s':ao):Prop:=∃H',Inv X pins σ H' s'/\Q b H'
def AP (X:Cx)(pins:List (Addr×Obj))(σ:St)(Q:List V->Hp->Prop)(us:List Value)(s':ao):Prop:=∃vs H',Inv X pins σ H' s'/\Vals vs us/\Q vs H'
def SP (X:Cx)(pins:List (Addr×Obj))(D:Ends)(f:Flow)(s':ao):Prop:=
 match f with
 |.next=>∃σ' H',Inv X pins σ' H' s'/\D.nx σ' H'
 |.brk=>∃σ' H',Inv X pins σ' H' s'/\D.bk σ' H'
 |.cont=>∃σ' H',Inv X pins σ' H' s'/\D.ct σ' H'
 |.ret u=>∃v σ' H',Inv X pins σ' H' s'/\RelV v u/\D.rt v H'
def PE (X:Cx)(e:Expr)(t:TE):Prop:=∀(pins:List (Addr×Obj)) (s:ao) (σ:St) (H:Hp) (Q:VK),Inv X pins σ H s->t σ H Q->wpAny (model X.prog X.w) X.A (eval e X.env) (EP X pins σ Q) X.xe s
def PT (X:Cx)(e:Expr)(t:TT):Prop:=∀(pins:List (Addr×Obj)) (s:ao) (σ:St) (H:Hp) (Q:Bool->Hp->Prop),Inv X pins σ H s->t σ H Q->wpAny (model X.prog X.w) X.A (sj e X.env (eval e X.env)) (TP X pins σ Q) X.xe s
def PW (X:Cx)(e:Expr)(t:TT):Prop:=∀(whole:Sem Value) (pins:List (Addr×Obj)) (s:ao) (σ:St) (H:Hp) (Q:Bool->Hp->Prop),Inv X pins σ H s->t σ H Q->wpAny (model X.prog X.w) X.A (sj e X.env whole) (TP X pins σ Q) X.xe s
theorem PW.pt (h:PW X e t):PT X e t:=h _
def PA (X:Cx)(es:List Expr)(t:TA):Prop:=∀(pos:Pos) (pins:List (Addr×Obj)) (s:ao) (σ:St) (H:Hp) (Q:List V->Hp->Prop),Inv X pins σ H s->t σ H Q->wpAny (model X.prog X.w) X.A (spliced (oh pos (fh es X.env))) (AP X pins σ Q) X.xe s
def PS (X:Cx)(st:Stmt)(t:TS):Prop:=∀(pins:List (Addr×Obj)) (s:ao) (σ:St) (H:Hp) (D:Ends),Inv X pins σ H s->t D σ H->wpAny (model X.prog X.w) X.A (exec st X.env) (SP X pins D) X.xe s
def PSs (X:Cx)(st:List Stmt)(t:TS):Prop:=∀(pins:List (Addr×Obj)) (s:ao) (σ:St) (H:Hp) (D:Ends),Inv X pins σ H s->t D σ H->wpAny (model X.prog X.w) X.A (execs st X.env) (SP X pins D) X.xe s
theorem aN (h:wpAny M A t Q E s)(b:∀a s,Q a s->c a s):wpAny M A t c E s:=jg h b λ_ _ x=>x
section
variable {X:Cx}
theorem bin (ha:PE X a m)(hb:PE X b n){R:V->V->Hp->Prop}(I:Inv X c e H s)(h:m e H fun x k=>n e k fun y d=>R x y d)
  {l:Type} {Q:l->ao->Prop} {f:Value->Value->Sem l}
  (hf:∀v u j x y d,Inv X c e d j->RelV x v->RelV y u->R x y d->wpAny (model X.prog X.w) X.A (f v u) Q X.xe j):
  wpAny (model X.prog X.w) X.A (eval a X.env) (λv g=>wpAny (model X.prog X.w) X.A (eval b X.env) (λu i=>wpAny (model X.prog X.w) X.A (f v u) Q X.xe i) X.xe g) X.xe s:=by
 exact aN (ha c s e H _ I h) λv o ⟨x,k,p,q,r⟩=>aN (hb c o e k _ p r) λu j ⟨y,d,t,z,B⟩=>hf v u j x y d t q z B
def BX (i:Nat):TE:=λσ H Q=>∃v,σ[i]?=Z9 (Z9 v)/\Q v H
def tC (v:V):TE:=λ_ H Q=>Q v H
theorem pW (hN:X.N[i]?=Z9 x)(j:Vis X.env.scope x)(hd:Y4 x:=by decide)(f:(x==("__classdict__":Str))=false:=by decide):PE X (.Name x pos) (BX i):=by
 rintro d s k H Q I ⟨v,e,h⟩
 obtain⟨m,hn,hl⟩:=I.loc;obtain⟨u,r,l⟩:=hl i x v hN e j;have b:EP X d k Q u s:=⟨v,H,I,r,h⟩;rcases l with⟨hk,hm⟩|⟨hk,c,g,a⟩
 .exact uq (sk I.ok.kind hk hn hm b) hd
 .rcases hk with hk|hk
  .exact uq (wpAny_loadName_cell I.ok.kind hk g a b) hd
  .exact uq (wpAny_loadName_free I.ok.kind hk g a b f) hd
theorem NI {i j pos}:PE X (.Constant (.int i) j pos) (tC (.int i)):=λ_ _ _ H _ I h=>wpAny_Constant_int ⟨.int i,H,I.tok _,⟨_,rfl⟩,h⟩
theorem NJ {b j pos}:PE X (.Constant (.bool b) j pos) (tC (.bl b)):=λ_ _ _ H _ I h=>Constant_bool ⟨.bl b,H,I,rfl,h⟩
theorem NK {j pos}:PE X (.Constant .none j pos) (tC .bK):=λ_ _ _ H _ I h=>ud ⟨.bK,H,I,rfl,h⟩
theorem Hj {x j pos}:PE X (.Constant (.str x) j pos) (tC (.str x)):=λ_ _ _ H _ I h=>Calls.Constant_str ⟨.str x,H,I.tok _,⟨_,rfl⟩,h⟩
def Gl (X:Cx)(x:Str):Prop:=X.env.kindOf x=Z9 .globalImplicit
theorem z3l (I:Inv X a c H s)(b:Gl X x)(hm:X.mg x=Z9 u)(h:Q u s)
  (hd:Y4 x:=by decide):wpAny (model X.prog X.w) X.A (eval (.Name x pos) X.env) Q E s:=
 lb I.ok.kind b (qf (I.ok.glob▸I.mod.glob.keeps I.bk) hm h) hd
theorem z3n (I:Inv X a f H s)(b:Gl X x)(hm:X.mg x=Z8)(c:c9 x=Z9 u)(h:Q u s)
  (hn:x≠"__name__":=by decide) (hd:Y4 x:=by decide):wpAny (model X.prog X.w) X.A (eval (.Name x pos) X.env) Q E s:=by
 obtain⟨g,d,e⟩:=I.mod.blt;exact lb I.ok.kind b (Calls.loadGlobal_builtin (I.ok.glob▸I.mod.glob.keeps I.bk) hm (I.ok.blt▸d.keeps I.bk) ((e x hn).trans c) h) hd
theorem NL (hg:Gl X x)(hm:X.mg x=Z9 u)(r:RelV v u)(hd:Y4 x:=by decide):PE X (.Name x pos) (tC v):=λ_ _ _ H _ I h=>z3l I hg hm ⟨v,H,I,r,h⟩ hd
theorem NM (a:Gl X x)(hm:X.mg x=Z8)(b:c9 x=Z9 u)(r:RelV v u)(hn:x≠"__name__":=by decide)(hd:Y4 x:=by decide):PE X (.Name x pos) (tC v):=λ_ _ _ H _ I h=>z3n I a hm b ⟨v,H,I,r,h⟩ hn hd
variable {a b:Expr}{ta tb:TE}{pos:Pos}
def PC (X:Cx)(op:CmpOp)(a b:Expr)(t:TE):Prop:=∀(pins:List (Addr×Obj)) (s:ao) (σ:St) (H:Hp) (Q:VK),Inv X pins σ H s->t σ H Q->wpAny (model X.prog X.w) X.A (eval a X.env) (λv rB=>wpAny (model X.prog X.w) X.A (eval b X.env) (λu rC=>wpAny (model X.prog X.w) X.A (fi op v u) (EP X pins σ Q) X.xe rC) X.xe rB) X.xe s
theorem Hk (b:Expr)(h:op≠.In)(a:op≠.NotIn):iw op b=false:=by
 have c:(op==CmpOp.In)=false:=by cases op<;>first|rfl|exact absurd rfl h
 have d:(op==CmpOp.NotIn)=false:=by cases op<;>first|rfl|exact absurd rfl a
 cases b<;>simp[iw,c,d]
def wU (ta:TE):TE:=λσ H Q=>ta σ H λx H1=>Q (.bl (decide (x=.bK))) H1
def Hl (ta:TE):TE:=λσ H Q=>ta σ H λx H1=>Q (.bl (!decide (x=.bK))) H1
theorem RelV.gG (r:RelV x v):(v==Value.none)=decide (x=.bK):=by
 cases x with
 |bK=>cases r;rfl
 |bl _=>cases r;rfl
 |int _=>obtain⟨t,rfl⟩:=r;rfl
 |str _=>obtain⟨t,rfl⟩:=r;rfl
 |ref _=>cases r;rfl
 |ty _=>cases r;rfl
theorem Hm {j pos'}(ha:PE X a ta):PC X .Is a (.Constant .none j pos') (wU ta):=by intro pins s σ H Q I h;exact aN (ha pins s σ H _ I h) λv s1 ⟨x,H1,I1,r1,q1⟩=>ud (is_none_gen ⟨.bl _,H1,I1,by rw[r1.gG];rfl,q1⟩)
theorem Hn {j pos'}(ha:PE X a ta):PC X .IsNot a (.Constant .none j pos') (Hl ta):=by intro pins s σ H Q I h;exact aN (ha pins s σ H _ I h) λv s1 ⟨x,H1,I1,r1,q1⟩=>ud (isnot_none_gen ⟨.bl _,H1,I1,by rw[r1.gG];rfl,q1⟩)
def tB (t:TE):TT:=λσ H Q=>t σ H λx H1=>∃c,x=.bl c/\Q c H1
theorem Ho (h:PC X op a b t)(h1:iw op b=false:=by first|exact Hk _ (by decide) (by decide)|rfl):PE X (.Compare a [op] [b] pos) t:=λpins s σ H Q I hw=>wpAny_Compare1 (h pins s σ H Q I hw) h1
theorem Hq (h:PC X op a b t)(f:iw op b=false:=by first|exact Hk _ dc dc|rfl):PT X (.Compare a [op] [b] pos) (tB t):=by intro e s g H Q I i;refine r6 (aN (h e s g H _ I i) λv o f=>aN f λu p j=>aN j λc r ⟨x,k,l,m,n⟩=>?_) f;obtain⟨d,rfl,q⟩:=n;cases m;exact i0 ⟨k,l,q⟩
theorem NN (h:PE X e t)(he:∀whole,sj e X.env whole=(do let v <-whole;wx e.pos;va [v] (w4 v)):=by intro _;rfl):PT X e (tB t):=by intro pins s σ H Q I hw;refine isTrue_plain (aN (h pins s σ H _ I hw) λv s1 ⟨x,H1,I1,r1,q1⟩=>?_) (he _);obtain⟨d,rfl,q⟩:=q1;cases r1;exact i0 ⟨H1,I1,q⟩
variable {tA zV:TT}{rest:List Expr}
def BY (t u:TT):TT:=λσ H Q=>t σ H λc H1=>if c=Z7 then u σ H1 Q else Q Z6 H1
def NO (t u:TT):TT:=λσ H Q=>t σ H λc H1=>if c=Z7 then Q Z7 H1 else u σ H1 Q
def BZ (t:TT):TT:=λσ H Q=>t σ H λc H1=>Q (!c) H1
theorem NP (ha:PT X a tA):PW X (.BoolOp .And [a] pos) tA:=by
 intro f b s d H Q I h;refine isTrue_and (aN (ha b s d H Q I h) λc g e=>?_);cases c with
 |true=>exact isTrue_and_nil e
 |false=>exact e
theorem NQ (ha:PT X a tA):PW X (.BoolOp .Or [a] pos) tA:=by
 intro f b s d H Q I h;refine isTrue_or (aN (ha b s d H Q I h) λc g e=>?_);cases c with
 |false=>exact isTrue_or_nil e
 |true=>exact e
theorem NR (ha:PT X a tA)(hb:PW X (.BoolOp .And (b::rest) pos) zV):PW X (.BoolOp .And (a::b::rest) pos) (BY tA zV):=by
 intro j d s e H Q I h;refine isTrue_and (aN (ha d s e H _ I h) λc k ⟨f,g,i⟩=>?_);cases c with
 |true=>exact hb j d k e f Q g i
 |false=>exact⟨f,g,i⟩
theorem NS (ha:PT X a tA)(hb:PW X (.BoolOp .Or (b::rest) pos) zV):PW X (.BoolOp .Or (a::b::rest) pos) (NO tA zV):=by
 intro j d s e H Q I h;refine isTrue_or (aN (ha d s e H _ I h) λc k ⟨f,g,i⟩=>?_);cases c with
 |true=>exact⟨f,g,i⟩
 |false=>exact hb j d k e f Q g i
theorem Hr (ha:PT X a tA):PT X (.UnaryOp .Not a pos) (BZ tA):=by intro b s d H Q I h;exact isTrue_not (ha b s d H (λc e=>Q (!c) e) I h)
def NT (ta tb:TE):TE:=λσ H Q=>ta σ H λx H1=>∃c,x=.bl c/\if c=Z7 then tb σ H1 Q else Q (.bl Z6) H1
def B3 (ta tb:TE):TE:=λσ H Q=>ta σ H λx H1=>∃c,x=.bl c/\if c=Z7 then Q (.bl Z7) H1 else tb σ H1 Q
theorem Ht {op}(h:PE X a t):PE X (.BoolOp op [a] pos) t:=λb s c H Q I d=>BoolOp_one (h b s c H Q I d)
theorem NU (ha:PE X a ta)(hb:PE X (.BoolOp .And (b::rest) pos) tb):PE X (.BoolOp .And (a::b::rest) pos) (NT ta tb):=by
 intro d s f H Q I h;refine BoolOp_and (aN (ha d s f H _ I h) λv j ⟨x,g,i,k,e⟩=>?_);obtain⟨c,rfl,e⟩:=e;cases k;refine i0 ?_;cases c with
 |true=>exact hb d j f g Q i e
 |false=>exact⟨.bl Z6,g,i,rfl,e⟩
theorem NV (ha:PE X a ta)(hb:PE X (.BoolOp .Or (b::rest) pos) tb):PE X (.BoolOp .Or (a::b::rest) pos) (B3 ta tb):=by
 intro d s f H Q I h;refine BoolOp_or (aN (ha d s f H _ I h) λv j ⟨x,g,i,k,e⟩=>?_);obtain⟨c,rfl,e⟩:=e;cases k;refine i0 ?_;cases c with
 |false=>exact hb d j f g Q i e
 |true=>exact⟨.bl Z7,g,i,rfl,e⟩
def NW (t:TT)(ta tb:TE):TE:=λσ H Q=>t σ H λc H1=>if c=Z7 then ta σ H1 Q else tb σ H1 Q
theorem NY (l:PT X c tA)(ha:PE X a ta)(hb:PE X b tb):PE X (.IfExp c a b pos) (NW tA ta tb):=by
 intro e s f H Q I h;refine wpAny_IfExp (aN (l e s f H _ I h) λd g ⟨i,j,k⟩=>?_);cases d with
 |true=>exact ha e g f i Q j k
 |false=>exact hb e g f i Q j k
end
def SqL (K:Z5)(H:Hp)(a:Addr)(xs:List V):Prop:=Rd H a (.lst xs)\/∃(o:Obj) (its:Array Value) (n:Nat),K.lookup a=Z9 o/\o.cls=.type "list"/\o.dict=Z8/\o.data=.seq its n/\its.size<=bj/\Vals xs its.toList
def cA (K:Z5)(H:Hp)(a:Addr)(xs:List V):Prop:=Rd H a (.tup xs)\/∃(o:Obj) (its:Array Value) (n:Nat),K.lookup a=Z9 o/\o.cls=.type "tuple"/\o.dict=Z8/\o.data=.seq its n/\its.size<=bj/\Vals xs its.toList
def B4:Value->Option V
 |.none=>Z9 .bK
 |.bool b=>Z9 (.bl b)
 |.int i _=>Z9 (.int i)
 |.str x _=>Z9 (.str x)
 |.ref a=>Z9 (.ref a)
 |.type n=>Z9 (.ty n)
 |_=>Z8
theorem RelV.abs (r:RelV x u):B4 u=Z9 x:=by
 cases x with
 |bK=>cases r;rfl
 |bl _=>cases r;rfl
 |int _=>obtain⟨t,rfl⟩:=r;rfl
 |str _=>obtain⟨t,rfl⟩:=r;rfl
 |ref _=>cases r;rfl
 |ty _=>cases r;rfl
theorem RelV.inj (r:RelV x u)(q:RelV y u):x=y:=xr (r.abs.symm.trans q.abs)
theorem Vals.inj:∀{a b:List V} {c:List Value},Vals a c->Vals b c->a=b
 |_,_,_,.nil,.nil=>rfl
 |_,_,_,.cons r t,.cons d e=>by rw[r.inj d,Vals.inj t e]
section
variable {X:Cx}{pins:List (Addr×Obj)}{σ:St}{H:Hp}{s:ao}{a:Addr}{xs ys:List V}
theorem SqL.of {K:Z5}(h:H a=Z9 (.lst xs)):SqL K H a xs:=.inl (.inl h)
theorem cA.of {K:Z5}(h:H a=Z9 (.tup xs)):cA K H a xs:=.inl (.inl h)
theorem Inv.list (I:Inv X pins σ H s)(h:SqL X.K H a xs):∃b,Vals xs b/\PlainL s.heap a b.toArray/\xs.length<=bj:=by
 rcases h with h|⟨o,b,n,hk,c,hd,hs,d,r⟩
 .obtain⟨z,b,n,r,e⟩:=h.ok I.hok;exact⟨b,r,⟨_,n,e,rfl,rfl,rfl⟩,z⟩
 .refine⟨b.toList,r,⟨o,n,I.eN a o hk,c,hd,by simpa using hs⟩,?_⟩;have e:=r.length;simp at e;omega
theorem Inv.tuple (I:Inv X pins σ H s)(h:cA X.K H a xs):∃b,Vals xs b/\IsTup s.heap a b.toArray/\xs.length<=bj:=by
 rcases h with h|⟨o,b,n,hk,c,_,hs,d,r⟩
 .obtain⟨z,b,r,p⟩:=h.ok I.hok;exact⟨b,r,p.tup,z⟩
 .refine⟨b.toList,r,⟨o,I.eN a o hk,c,n,by simpa using hs⟩,?_⟩;have e:=r.length;simp at e;omega
theorem Inv.lC (I:Inv X pins σ H s)(h:cA X.K H a xs):∃l,Vals xs l/\Nz s.heap a l.toArray/\xs.length<=bj:=by
 rcases h with h|⟨o,l,n,q,b,hd,hs,c,r⟩
 .obtain⟨z,l,r,n,q⟩:=h.ok I.hok;exact⟨l,r,⟨_,n,q,rfl,rfl,rfl⟩,z⟩
 .exact⟨l.toList,r,⟨o,n,I.eN a o q,b,hd,(by simpa using hs)⟩,(by have w:=r.length;simp at w;omega)⟩
theorem Inv.lD (I:Inv X pins σ H s)(h:SqL X.K H a xs)(i:SqL X.K H a ys):xs=ys:=by
 obtain⟨c,r,⟨o,n,e,_,_,d⟩,_⟩:=I.list h;obtain⟨b,j,⟨k,l,f,_,_,g⟩,_⟩:=I.list i;rw[e]at f;cases f;rw[d]at g;injection g with d1 _;have:c=b:=by simpa using congrArg Array.toList d1
 subst this;exact r.inj j
theorem Inv.jH (I:Inv X pins σ H s)(h:cA X.K H a xs)(i:cA X.K H a ys):xs=ys:=by
 obtain⟨c,r,⟨o,e,_,n,d⟩,_⟩:=I.tuple h;obtain⟨b,j,⟨k,f,_,l,g⟩,_⟩:=I.tuple i;rw[e]at f;cases f;rw[d]at g;injection g with d1 _;have:c=b:=by simpa using congrArg Array.toList d1
 subst this;exact r.inj j
end
abbrev Cx.cX (X:Cx)(E:Value->ao->Prop):Cx:={X with xe:=E}
abbrev Cx.pX (X:Cx):Cx:=X.cX λ_ _=>False
theorem Cx.Ok.cX {X:Cx}(ok:X.Ok)(E:Value->ao->Prop):(X.cX E).Ok:=⟨ok.mod,ok.kind,ok.glob,ok.blt,ok.above,ok.inj,ok.has,ok.pU,ok.hd,ok.frames,ok.qZ,ok.rA,ok.bs,ok.iS,ok.gD,ok.gF,ok.cP,ok.nO,ok.zU⟩
theorem Cx.Ok.bR {X:Cx}(ok:(X.cX E).Ok):X.Ok:=⟨ok.mod,ok.kind,ok.glob,ok.blt,ok.above,ok.inj,ok.has,ok.pU,ok.hd,ok.frames,ok.qZ,ok.rA,ok.bs,ok.iS,ok.gD,ok.gF,ok.cP,ok.nO,ok.zU⟩
section
variable {X:Cx}{pins:List (Addr×Obj)}{σ:St}{H:Hp}{s:ao}{E:Value->ao->Prop}
theorem Inv.cX (I:Inv X pins σ H s)(E:Value->ao->Prop):Inv (X.cX E) pins σ H s:=⟨I.ok.cX E,I.os,I.bare,I.base,I.loc,I.cell,I.free,I.bD,I.pin,I.hok,I.len,I.fx⟩
theorem Inv.bR (I:Inv (X.cX E) pins σ H s):Inv X pins σ H s:=⟨I.ok.bR,I.os,I.bare,I.base,I.loc,I.cell,I.free,I.bD,I.pin,I.hok,I.len,I.fx⟩
theorem SP.bR (h:SP (X.cX E) pins D f c):SP X pins D f c:=by
 cases f with
 |next=>obtain⟨a,b,I,q⟩:=h;exact⟨a,b,I.bR,q⟩
 |brk=>obtain⟨a,b,I,q⟩:=h;exact⟨a,b,I.bR,q⟩
 |cont=>obtain⟨a,b,I,q⟩:=h;exact⟨a,b,I.bR,q⟩
 |ret u=>obtain⟨v,a,b,I,r,q⟩:=h;exact⟨v,a,b,I.bR,r,q⟩
theorem PSs.pX {st:List Stmt}(h:PSs X.pX st t):PSs X st t:=λpins s σ H D I a=>jg (h pins s σ H D (I.cX _) a) (λ_ _ q=>q.bR) λ_ _ z=>False.elim z
end
section
variable {X:Cx}{st:Stmt}{rest:List Stmt}{t u:TS}{e:Expr}{te:TE}{pos:Pos}
def NZ:TS:=λD σ H=>D.nx σ H
def B5 (t u:TS):TS:=λD σ H=>t {D with nx:=u D} σ H
theorem N0:PSs X [] NZ:=λ_ _ a H _ I h=>on ⟨a,H,I,h⟩
theorem zW (c:PS X st t)(d:PSs X rest u):PSs X (st::rest) (B5 t u):=by
 intro a s e H D I h;refine nz (aN (c a s e H {D with nx:=u D} I h) λf g q=>?_);cases f with
 |next=>obtain⟨b,i,j,q⟩:=q;exact d a g b i D j q
 |ret v=>exact q
 |brk=>exact q
 |cont=>exact q
theorem Hu (h1:PS X st t):PSs X [st] t:=by
 intro pins s σ H D I h;refine nz (aN (h1 pins s σ H D I h) λf s1 q=>?_);cases f with
 |next=>exact on q
 |ret v=>exact q
 |brk=>exact q
 |cont=>exact q
theorem Inv.quiet (I:Inv X a b H s):interactive X.env=false:=by simp[interactive,I.ok.kind]
def Hv (te:TE):TS:=λD σ H=>te σ H λ_ H1=>D.nx σ H1
theorem N1 (c:PE X e te)(hs:n4 e Z8 pos.line X.env=pure false:=by rfl):PS X (.Expr e pos) (Hv te):=by intro a s b H D I h;exact wpAny_Expr_any (aN (c a s b H _ I h) λv i ⟨x,d,f,j,g⟩=>⟨b,d,f,g⟩) I.quiet hs
def B6 (te:TE):TS:=λD σ H=>te σ H D.rt
theorem zX (c:PE X e te):PS X (.Return (Z9 e) pos) (B6 te):=by intro a s b H D I h;exact wpAny_Return_some (aN (c a s b H _ I h) λv j ⟨x,d,f,g,i⟩=>⟨x,b,d,f,g,i⟩)
def B7 (c:TT)(t u:TS):TS:=λD σ H=>c σ H λb H1=>if b=Z7 then t D σ H1 else u D σ H1
theorem Hw (l:PT X c tc)(ha:PSs X a t)(hb:PSs X b u):PS X (.If c a b pos) (B7 tc t u):=by
 intro e s f H D I h;refine wpAny_If (aN (l e s f H _ I h) λd g ⟨i,j,k⟩=>?_);cases d with
 |true=>exact ha e g f i D j k
 |false=>exact hb e g f i D j k
end
abbrev TG:=V->St->Hp->(St->Hp->Prop)->Prop
abbrev uN:=List V->St->Hp->(St->Hp->Prop)->Prop
def PG (X:Cx)(target:Expr)(t:TG):Prop:=∀(pins:List (Addr×Obj)) (s:ao) (σ:St) (H:Hp) (v:V) (u:Value) (Q:St->Hp->Prop),Inv X pins σ H s->RelV v u->t v σ H Q->wpAny (model X.prog X.w) X.A (ur target X.env u) (λ_ s'=>∃σ' H',Inv X pins σ' H' s'/\Q σ' H') X.xe s
def PGs (X:Cx)(ts:List Expr)(t:uN):Prop:=∀(pins:List (Addr×Obj)) (s:ao) (σ:St) (H:Hp) (vs:List V) (us:List Value) (Q:St->Hp->Prop),Inv X pins σ H s->Vals vs us->t vs σ H Q->wpAny (model X.prog X.w) X.A (assignInOrder ((i7 ts X.env).map (·.2)) us) (λ_ s'=>∃σ' H',Inv X pins σ' H' s'/\Q σ' H') X.xe s
abbrev rD:=V->V->V->Hp->(Hp->Prop)->Prop
def B8 (X:Cx)(t:rD):Prop:=∀(pins:List (Addr×Obj)) (s:ao) (σ:St) (H:Hp) (o i v:V) (ov iv u:Value) (Q:Hp->Prop),Inv X pins σ H s->RelV o ov->RelV i iv->RelV v u->t o i v H Q->wpAny (model X.prog X.w) X.A (setItem ov iv u) (λ_ s'=>∃H',Inv X pins σ H' s'/\Q H') X.xe s
section
variable {X:Cx}{pos:Pos}
def B9 (i:Nat):TG:=λv σ H Q=>Q (σ.set i (Z9 v)) H
theorem Hx (hN:X.N.Nodup)(hi:X.N[i]?=Z9 x)(hx:Loc X.env.scope x)(hf:X.fn x=Z7\/X.env.scope.names.lookup x=Z9 .local:=by first|exact .inl rfl|exact .inr rfl|assumption):PG X (.Name x pos) (B9 i):=by intro pins s σ H v u Q I r h;exact vb (z6f I hN hi hx r (λs' I'=>⟨_,H,I',h⟩) hf)
def Ca:uN:=λvs σ H Q=>vs=[]/\Q σ H
def N2 (t:TG)(u:uN):uN:=λvs σ H Q=>∃v r,vs=v::r/\t v σ H λσ' H'=>u r σ' H' Q
theorem N3:PGs X [] Ca:=by
 rintro a s b H c d Q I r ⟨rfl,h⟩
 cases r;exact assignInOrder_nil ⟨b,H,I,h⟩
theorem zit (c:PG X e t)(d:PGs X es u)
  (hs:(i7 (e::es) X.env).map (·.2)=ur e X.env::(i7 es X.env).map (·.2):=by rfl):PGs X (e::es) (N2 t u):=by
 rintro a s f H l m Q I r ⟨v,n,rfl,h⟩
 cases r with
 |cons r rr=>rw[hs];refine assignInOrder_cons (aN (c a s f H _ _ _ I r h) λ_ g ⟨b,i,j,k⟩=>?_);exact d a g b i _ _ Q j rr k
def Cb (K:Z5)(n:Nat)(t:uN):TG:=λv σ H Q=>∃a xs,v=.ref a/\cA K H a xs/\xs.length=n/\t xs σ H Q
theorem zsc (g:X.calm=Z7)(h:PGs X es t)
  (hn:(i7 es X.env).length=n:=by rfl) (d:(i7 es X.env).findIdx? (·.1)=none:=by rfl):PG X (.Tuple es k pos) (Cb X.K n t):=by
 rintro c s f H v u Q I r ⟨a,i,rfl,j,hl,l⟩
 cases r;obtain⟨m,rv,ht,w⟩:=I.tuple j;refine assign_Tuple_tuple (I.ok.hd g) ht (by simp[hn,<-hl,rv.length]) d λp hx=>?_;have q:Inv X c f H {s with heap:=p}:=I.kept λb o e=>hx b o (br (bh e)) e;exact h c _ f H i _ Q q (by simpa using rv) l
def rE (te:TE)(g:TG):TS:=λD σ H=>te σ H λx H1=>g x σ H1 D.nx
theorem zsx (d:PE X e f)(i:PG X b g)(hs:ue [b] e pos.line X.env=pure false:=by rfl)(j:uf [b] e X.env=pure none:=by rfl)
  (k:(i7 [b] X.env).map (·.2)=[ur b X.env]:=by rfl):PS X (.Assign [b] e pos) (rE f g):=by
 intro a s c H D I h;refine wpAny_Assign_stores (aN (d a s c H _ I h) λv l ⟨x,m,n,o,p⟩=>?_) hs j;rw[k];exact aN (i a l c m x v _ n o p) λ_ r q=>q
theorem zkf (hN:X.N.Nodup)(hi:X.N[i]?=Z9 x)(hx:Loc X.env.scope x)(he:PE X e te)(hs:n4 e (Z9 (.Name x pos')) pos.line X.env=pure false:=by rfl)(hf:X.fn x=Z7\/X.env.scope.names.lookup x=Z9 .local:=by first|exact .inl rfl|exact .inr rfl|assumption):
  PS X (.Assign [.Name x pos'] e pos) (rE te (B9 i)):=by
 intro pins s σ H D I h;refine wpAny_Assign_Name (aN (he pins s σ H _ I h) λv s1 ⟨y,H1,I1,r1,q1⟩=>?_) hs;exact z6f I1 hN hi hx r1 (λs2 I2=>⟨_,H1,I2,q1⟩) hf
end
section
variable {X:Cx}{pos:Pos}
def N4 (c:TT)(tb:TS):TS:=λD σ H=>∃W:Nat->St->Hp->Prop,(∃m,W m σ H)/\∀m σ H,W m σ H->c σ H λb H1=>if b=Z7 then ∃N:St->Hp->Prop,(∀σ' H',N σ' H'->∃m',m'<m/\W m' σ' H')/\tb {D with nx:=N,ct:=N,bk:=D.nx} σ H1 else D.nx σ H1
theorem N5 (hp:iq (model X.prog X.w) X.A X.env X.xe)(hc:PT X c tc)(hb:PSs X body tb):PS X (.While c body [] pos) (N4 tc tb):=by
 rintro pins s σ H D I ⟨W,⟨m0,w0⟩,turn⟩
 refine wpAny_While (codeAny_whileLoop (λn s'=>∃σ' H',Inv X pins σ' H' s'/\W n σ' H') ?_ m0 ⟨σ,H,I,w0⟩)
 rintro n s1 ⟨zY,H1,I1,w1⟩
 refine jr hp (aN (hc pins s1 zY H1 _ I1 (turn n zY H1 w1)) λb s2 ⟨H2,I2,q2⟩=>?_);cases b with
 |true=>
  obtain⟨N,hN,q2⟩:=q2;refine jr hp (aN (hb pins s2 zY H2 _ I2 q2) λf s3 q3=>?_);cases f with
  |next=>obtain⟨lE,H3,I3,n3⟩:=q3;obtain⟨m',hm,w3⟩:=hN lE H3 n3;exact⟨m',hm,lE,H3,I3,w3⟩
  |cont=>obtain⟨lE,H3,I3,n3⟩:=q3;obtain⟨m',hm,w3⟩:=hN lE H3 n3;exact⟨m',hm,lE,H3,I3,w3⟩
  |brk=>exact q3
  |ret v=>exact q3
 |false=>exact on ⟨zY,H2,I2,q2⟩
end
structure It where
 go:Nat->Hp->Prop
 jI:Nat->Hp->V->Hp->Prop
 stop:Nat->Hp->Prop
def FpOk (X:Cx)(pins:List (Addr×Obj))(H:Hp)(b:Addr):Prop:=H b=Z8/\b≠X.env.locals/\b∉X.fs/\(b∈X.ex\/X.s₀.heap.objs.size<=b)/\(∀x c,X.env.cells.lookup x=Z9 c->c≠b)/\∀p∈X.pn++pins,p.1≠b
theorem Inv.lF (I:Inv X a g H s)(hb:s.heap.objs.size<=b)(hn:d b=Z8):FpOk X a d b:=by
 refine⟨hn,lg (b8 I.lt hb),I.wN hb,.inr (bo I.sz hb),λx c e z=>?_,λp f z=>?_⟩
 .obtain⟨v,q⟩:=I.cell x c e;exact absurd (b8 q.lt (z▸hb)) (cg _)
 .exact absurd (b8 (bh (I.pin p f).1) (z▸hb)) (cg _)
structure Turn (P:b9)(w:World)(K:Z5)(tg:Expr)(J:It)(fp:List Addr)(it:Addr)(tn:Nat->Heap->Prop):Prop where
 mem:it∈fp
 obj:∀i h,tn i h->∀b∈fp,∃o,h.get? b=Z9 o/\∀v,o.data≠.cell v
 keep:∀i h h',tn i h->(∀b∈fp,∀o,h.get? b=Z9 o->h'.get? b=Z9 o)->tn i h'
 item:∀(X:Cx),X.prog=P->X.w=w->X.K=K->X.calm=Z7->∀(i:Nat) (pins:List (Addr×Obj)) (s:ao) (σ:St) (H:Hp) (E:Value->ao->Prop),Inv X pins σ H s->(∀b∈fp,FpOk X pins H b)->tn i s.heap->J.go i H->wpAny (model P w) X.A (we (.ref it)) (λr s1=>∃u,r=Z9 u/\wpAny (model P w) X.A (kq tg (.ref it) u) (λ_ s2=>∃x H',Inv X pins σ H' s2/\RelV x u/\J.jI i H x H'/\tn (i+1) s2.heap/\∀b∈fp,H' b=Z8) E s1) E s
 done:∀(X:Cx),X.prog=P->X.w=w->X.K=K->X.calm=Z7->∀(i:Nat) (pins:List (Addr×Obj)) (s:ao) (σ:St) (H:Hp) (E:Value->ao->Prop),Inv X pins σ H s->(∀b∈fp,FpOk X pins H b)->tn i s.heap->J.stop i H->wpAny (model P w) X.A (we (.ref it)) (λr s1=>r=Z8/\Inv X pins σ H s1) E s
 self:∀(A:dh) (i:Nat) (s:ao) (Q:Value->ao->Prop) (E:Value->ao->Prop),tn i s.heap->Q (.ref it) s->wpAny (model P w) A (qp (.ref it)) Q E s
abbrev TI:=St->Hp->(It->Hp->Prop)->Prop
def wV (X:Cx)(pins:List (Addr×Obj))(σ:St)(tg:Expr)(R:It->Hp->Prop)(wW:Value)(s2:ao):Prop:=∃(it:Addr) (fp:List Addr) (tn:Nat->Heap->Prop) (J:It) (H':Hp),wW=.ref it/\Inv X pins σ H' s2/\Turn X.prog X.w X.K tg J fp it tn/\tn 0 s2.heap/\(∀b∈fp,FpOk X pins H' b)/\R J H'
def PI (X:Cx)(tg iter:Expr)(wi:TI):Prop:=∀(pins:List (Addr×Obj)) (s:ao) (σ:St) (H:Hp) (R:It->Hp->Prop),Inv X pins σ H s->wi σ H R->wpAny (model X.prog X.w) X.A (eval iter X.env) (λv s1=>wpAny (model X.prog X.w) X.A (qp v) (wV X pins σ tg R) X.xe s1) X.xe s
theorem zo6 (ho:s.heap.get? b=Z9 o)(c:o.cls=.type n)(hd:o.data=.fields d)
  (hn:["enumerate","zip","dict_itemiterator","dict_reverseitemiterator","odict_iterator","itertools.zip_longest","itertools.pairwise"].contains n=Z6) (a:Q () s):wpAny M A (kq e (.ref b) u) Q E s:=by
 cases e<;>first
  |exact ae a
  |(cases u<;>first
   |exact ae a
   |(refine aa (ut ho ?_)
     rw[c,hd];show wpAny M A (if(["enumerate","zip","dict_itemiterator","dict_reverseitemiterator","odict_iterator","itertools.zip_longest","itertools.pairwise"].contains n&&d[0]?==Z9 (n5 _))=Z7 then _ else _) Q E s;rw[xq (by intro h;rw[hn]at h;cases h)];exact ae a))
def Hy (K:Z5)(a:Addr):It:=⟨λi H=>∃xs x,SqL K H a xs/\xs[i]?=Z9 x,λi H x H'=>H'=H/\∀xs,SqL K H a xs->xs[i]?=Z9 x,λi H=>∃xs,SqL K H a xs/\xs.length<=i⟩
def Hz (K:Z5)(a:Addr):It:=⟨λi H=>∃xs x,cA K H a xs/\xs[i]?=Z9 x,λi H x H'=>H'=H/\∀xs,cA K H a xs->xs[i]?=Z9 x,λi H=>∃xs,cA K H a xs/\xs.length<=i⟩
def zZ (lo:Int)(n:Nat):It:=⟨λi _=>i<n,λi H x H'=>H'=H/\x=.int (lo+i),λi _=>n<=i⟩
theorem N6 {K:Z5}(a g:Addr):Turn P w K U (Hy K a) [g] g (λi h=>h.IsListIter g a i) where
 mem:=by simp
 obj:=λi h st b hb=>by
  have e:b=g:=by simpa using hb
  subst e;obtain⟨o,e,c,d⟩:=st;exact⟨o,e,λv z=>by rw[d]at z;cases z⟩
 keep:=λi h m st k=>st.at λo e=>k g (by simp) o e
 item:=by intro X n q r G i f s J H E I hf st t;subst n q r;obtain⟨L,x,l,hx⟩:=t;obtain⟨y,rv,p,M⟩:=I.list l;obtain⟨u,hu,N⟩:=rv.get hx;obtain⟨A,B,O,C,D,F⟩:=hf g (by simp);refine wpAny_pyNext_list_item st p.isList (by simpa using hu) λm j Q=>?_;have R:Inv X f J H {s with heap:=m}:=I.turned (λb o hb e=>(Q.2 b hb).trans e) A B C D F;obtain⟨o,e,c,d⟩:=id j;exact⟨u,rfl,zo6 e c d (by decide) ⟨x,H,R,N,⟨rfl,λV S=>by rw[I.lD S l];exact hx⟩,j,λb hb=>(hf b hb).1⟩⟩
 done:=by intro X n q r G i f s J H E I hf st t;subst n q r;obtain⟨L,l,hx⟩:=t;obtain⟨y,rv,p,M⟩:=I.list l;obtain⟨A,B,O,C,D,F⟩:=hf g (by simp);have hl:=rv.length;exact wpAny_pyNext_list_end (I.ok.hd G) st p.isList (by grind) λm T=>⟨rfl,I.turned (λb o hb e=>T b o hb e) A B C D F⟩
 self:=λ_ _ _ _ _ st h=>wpAny_pyIter_listiter st h
theorem N7 {K:Z5}(a g:Addr):Turn P w K U (Hz K a) [g] g (λi h=>h.IsTupleIter g a i) where
 mem:=by simp
 obj:=λi h st b hb=>by
  have e:b=g:=by simpa using hb
  subst e;obtain⟨o,e,c,d⟩:=st;exact⟨o,e,λv z=>by rw[d]at z;cases z⟩
 keep:=λi h m st k=>st.at λo e=>k g (by simp) o e
 item:=by intro X n q r G i f s J H E I hf st t;subst n q r;obtain⟨L,x,l,hx⟩:=t;obtain⟨y,rv,p,M⟩:=I.tuple l;obtain⟨u,hu,N⟩:=rv.get hx;obtain⟨A,B,O,C,D,F⟩:=hf g (by simp);refine wpAny_pyNext_tuple_item st p (by simpa using hu) λm j Q=>?_;have R:Inv X f J H {s with heap:=m}:=I.turned (λb o hb e=>(Q.2 b hb).trans e) A B C D F;obtain⟨o,e,c,d⟩:=id j;exact⟨u,rfl,zo6 e c d (by decide) ⟨x,H,R,N,⟨rfl,λV S=>by rw[I.jH S l];exact hx⟩,j,λb hb=>(hf b hb).1⟩⟩
 done:=by intro X n q r G i f s J H E I hf st t;subst n q r;obtain⟨L,l,hx⟩:=t;obtain⟨y,rv,p,M⟩:=I.tuple l;obtain⟨A,B,O,C,D,F⟩:=hf g (by simp);have hl:=rv.length;exact wpAny_pyNext_tuple_end (I.ok.hd G) st p (by grind) λm T=>⟨rfl,I.turned (λb o hb e=>T b o hb e) A B C D F⟩
 self:=λ_ _ _ _ _ st h=>wpAny_pyIter_tupleiter st h
theorem N8 {K:Z5}(a:Addr)(f:Int)(n:Nat):Turn P w K L (zZ f n) [a] a (λi h=>IsRangeIter h a (f+(i:Nat)*1) ((n:Int)-(i:Nat)) 1) where
 mem:=by simp
 obj:=λi h st b hb=>by
  have e:b=a:=by simpa using hb
  subst e;exact⟨_,st,λv z=>by cases z⟩
 keep:=λi h g st k=>k a (by simp) _ st
 item:=by intro X x y A j i c s B H E I hf st l;subst x y A;obtain⟨m,p,C,q,r,u⟩:=hf a (by simp);refine(Walks.range (prog:=X.prog) (w:=X.w) (I.ok.hd j) a f 1 n).item i s _ _ l st λv g D F d kk=>?_;obtain⟨t,rfl⟩:=F;have G:Inv X c B H {s with heap:=g,toks:=D}:=I.turned (λb o hb e=>kk b o (by simpa using hb) e) m p q r u;refine⟨_,rfl,zo6 d rfl rfl (by decide) ⟨.int (f+i),H,G,⟨t,?_⟩,⟨rfl,rfl⟩,d,λb hb=>(hf b hb).1⟩⟩;rw[Int.mul_one]
 done:=by intro X x y A j i c s B H E I hf st l;obtain⟨m,p,C,q,r,u⟩:=hf a (by simp);exact wpAny_pyNext_range_end (I.ok.hd j) st (by have:n<=i:=l;omega) λg J=>⟨rfl,I.turned (λb o hb e=>J b o hb e) m p q r u⟩
 self:=λ_ _ _ _ _ st h=>wpAny_pyIter_rangeiter st h
section
variable {X:Cx}{tg:Expr}
theorem zhz {a:Int}(I:Inv X d g H s)(h:-(2 ^ 62)<=a)(i:a<2 ^ 62)(j:-(2 ^ 62)<=c)(k:c<2 ^ 62)
  (q:R (zZ a (c-a).toNat) H):wpAny (model X.prog X.w) X.A (qp (.ref s.heap.objs.size)) (wV X d g tg R) E {s with heap:=s.heap.push {cls:=.type "range",data:=.fields #[.int a t,.int c u,.int 1 v]},toks:=tk}:=by
 refine wpAny_pyIter_range (IsRange.new ..) (small_one h i j k) ?_;have f:Inv X d g H {s with heap:=s.heap.push {cls:=.type "range",data:=.fields #[.int a t,.int c u,.int 1 v]},toks:=tk}:=I.kept λb o e=>ac _ e;refine⟨(s.heap.push {cls:=.type "range",data:=.fields #[.int a t,.int c u,.int 1 v]}).objs.size,[(s.heap.push {cls:=.type "range",data:=.fields #[.int a t,.int c u,.int 1 v]}).objs.size],_,_,H,rfl,f.kept λb o e=>ac _ e,N8 _ a (c-a).toNat,?_,λb hb=>?_,q⟩
 .have l:a+((0:Nat):Int)*1=a:=by simp
  have m:(((c-a).toNat:Nat):Int)-((0:Nat):Int)=Builtin.Range.rangeSize a c 1:=by rw[rangeSize_one];split<;>omega
  rw[l,m];exact a7 _ rfl
 .have e:b=(s.heap.push {cls:=.type "range",data:=.fields #[.int a t,.int c u,.int 1 v]}).objs.size:=by simpa using hb
  subst e;exact f.lF (ar _) (f.hok.fresh (ar _))
def N9 (ta:TA):TI:=λσ H R=>ta σ H λvs H1=>∃j:Int,vs=[.int j]/\-(2 ^ 62)<=j/\j<2 ^ 62/\R (zZ 0 j.toNat) H1
theorem Oa (d:Gl X "range")(hm:X.mg "range"=Z8)(ha:PA X [a] e)(hs:fh [a] X.env=[(Z6,eval a X.env)]:=by rfl):PI X tg (.Call (.Name "range" p) [a] [] pos) (N9 e):=by
 intro b s f H R I h;refine Call_ (z3n I d hm boot_range (PyProof.Rows.callWith_type1 (aN (ha pos b s f H _ I h) λl m ⟨n,o,g,i,c⟩=>?_) hs rfl));obtain⟨j,rfl,c,k,q⟩:=c;cases i with
 |cons r rr=>cases rr;obtain⟨t,rfl⟩:=r;exact call_range_1 (zhz g (by omega) (by omega) c k (by simpa using q))
def Cd (wi:TI)(g:TG)(tb:TS):TS:=λD σ H=>wi σ H λJ H1=>∃W:Nat->Nat->St->Hp->Prop,(∃m,W 0 m σ H1)/\∀i m σ H,W i m σ H->(J.stop i H/\D.nx σ H)\/(J.go i H/\∃N:St->Hp->Prop,(∀σ' H',N σ' H'->∃m',m'<m/\W (i+1) m' σ' H')/\∀x H',J.jI i H x H'->g x σ H' λwX H2=>tb {D with nx:=N,ct:=N,bk:=D.nx} wX H2)
def z7q (fp:List Addr)(h:Heap):List (Addr×Obj):=fp.filterMap λb=>(h.get? b).map λo=>(b,o)
theorem uO (hb:b∈a)(e:h.get? b=Z9 o):(b,o)∈z7q a h:=fg.mpr ⟨b,hb,by rw[e];rfl⟩
theorem Ob (a:p∈z7q c h):p.1∈c/\h.get? p.1=Z9 p.2:=by
 obtain⟨b,hb,e⟩:=fg.mp a;cases q:h.get? b with
 |none=>rw[q]at e;cases e
 |some o=>rw[q]at e;have d:=xr e;subst d;exact⟨hb,q⟩
theorem Inv.pinned (I:Inv X a g H s)(hf:∀b∈c,FpOk X a H b)(ho:∀b∈c,∃o,s.heap.get? b=Z9 o/\∀v,o.data≠.cell v):Inv X (a++z7q c s.heap) g H s:=I.dM λp h=>(cf.mp h).elim (λz=>I.pin p (aq _ z)) λz=>by obtain⟨hb,e⟩:=Ob z;obtain⟨i,j,k,_⟩:=hf p.1 hb;obtain⟨o,f,d⟩:=ho p.1 hb;rw[e]at f;cases f;exact⟨e,i,j,k,d⟩
theorem Inv.bU (I:Inv X (a++pl) b H s):Inv X a b H s:=I.dM λp c=>I.pin p (aq _ (cx _ c))
theorem zkb (C:iq (model X.prog X.w) X.A X.env X.xe)(U:X.calm=Z7)(hi:PI X tg y wi)(hg:PG X tg g)(hb:PSs X E tb)
  (hs:∀x,g7 y X.env x=pure x:=by intro _;rfl):PS X (.For tg y E [] pos) (Cd wi g tb):=by
 intro a s V H D I h;refine wpAny_For (aN (hi a s V H _ I h) λv s1 h1=>aN h1 λwW s2 h2=>?_) hs;obtain⟨it,F,tn,J,H2,rfl,I2,T,P,Y,W,⟨m0,w0⟩,G⟩:=h2;have j:∀{t:Hp},(∀b∈F,t b=Z8)->∀b∈F,FpOk X a t b:=λhn b hb=>⟨hn b hb,(Y b hb).2⟩;refine codeAny_forLoop_any (λn s'=>∃i k t,Inv X a k t s'/\tn i s'.heap/\(∀b∈F,t b=Z8)/\W i n k t) ?_ m0 ⟨0,V,H2,I2,P,λb hb=>(Y b hb).1,w0⟩
 rintro n s3 ⟨i,lE,O,I3,K,L,w3⟩
 rcases G i n lE O w3 with⟨stop,qn⟩|⟨go,N,hN,step⟩
 .refine jr C (aN (T.done X rfl rfl rfl U i a s3 lE O X.xe I3 (j L) K stop) λr s4 ⟨hr,I4⟩=>?_);subst hr;exact on ⟨lE,O,I4,qn⟩
 .refine jr C (aN (T.item X rfl rfl rfl U i a s3 lE O X.xe I3 (j L) K go) λr s4 ⟨u,hr,h4⟩=>?_);subst hr;refine jr C (aN h4 λ_ s5 ⟨x,H5,I5,r5,y5,B,Q⟩=>?_);refine jr C (aN (hg _ s5 lE H5 x u _ (I5.pinned (j Q) (T.obj _ _ B)) r5 (step x H5 y5)) λ_ s6 ⟨R,H6,I6,q6⟩=>?_);refine jr C (aN (hb _ s6 R H6 _ I6 q6) λf S z=>?_);have l:∀{c:St} {p:Hp},Inv X (a++z7q F s5.heap) c p S->N c p->∃m,m<n/\∃i k t,Inv X a k t S/\tn i S.heap/\(∀b∈F,t b=Z8)/\W i m k t:=λ{c p} q M=>by obtain⟨m',hm,w7⟩:=hN c p M;refine⟨m',hm,i+1,c,p,q.bU,T.keep _ _ _ B λb hb o e=>(q.pin (b,o) (aq _ (aq _ (uO hb e)))).1,λb hb=>?_,w7⟩;obtain⟨o,e,d⟩:=T.obj _ _ B b hb;exact(q.pin (b,o) (aq _ (aq _ (uO hb e)))).2.1
  cases f with
  |next=>obtain⟨c,p,q,M⟩:=z;exact l q M
  |cont=>obtain⟨c,p,q,M⟩:=z;exact l q M
  |brk=>obtain⟨c,p,q,z⟩:=z;exact⟨c,p,q.bU,z⟩
  |ret v=>obtain⟨x7,c,p,q,r7,z⟩:=z;exact⟨x7,c,p,q.bU,r7,z⟩
end
abbrev R2:=V->V->Hp->VK->Prop
def OpR (X:Cx)(f:Value->Value->Sem Value)(r:R2):Prop:=∀(pins:List (Addr×Obj)) (s:ao) (σ:St) (H:Hp) (x y:V) (v u:Value) (Q:VK),Inv X pins σ H s->RelV x v->RelV y u->r x y H Q->wpAny (model X.prog X.w) X.A (f v u) (EP X pins σ Q) X.xe s
def CallR (X:Cx)(f:Value)(r:List V->Hp->VK->Prop):Prop:=∀(pins:List (Addr×Obj)) (s:ao) (σ:St) (H:Hp) (xs:List V) (us:List Value) (Q:VK),Inv X pins σ H s->Vals xs us->r xs H Q->wpAny (model X.prog X.w) X.A (call f us) (EP X pins σ Q) X.xe s
def Ce (X:Cx)(r:V->Hp->(Bool->Hp->Prop)->Prop):Prop:=∀(pins:List (Addr×Obj)) (s:ao) (σ:St) (H:Hp) (x:V) (v:Value) (Q:Bool->Hp->Prop),Inv X pins σ H s->RelV x v->r x H Q->wpAny (model X.prog X.w) X.A (w4 v) (TP X pins σ Q) X.xe s
def wY (r:R2)(ta tb:TE):TE:=λσ H Q=>ta σ H λx H1=>tb σ H1 λy H2=>r x y H2 Q
def rI (C:Int->Int->Prop)(g:Int->Int->V):R2:=λx y H Q=>∃i j,x=.int i/\y=.int j/\C i j/\Q (g i j) H
def kO (g:Int->Int->V):R2:=λx y H Q=>∃i j,x=.int i/\y=.int j/\Q (g i j) H
section
variable {X:Cx}{a b c:Expr}{ta tb tc:TE}{pos:Pos}
theorem binT (ha:PE X a ta)(hb:PE X b tb){R:V->V->Hp->Prop}(I:Inv X pins d H s)
  (h:ta d H λx j=>tb d j λy c=>R x y c) {f:Value->Value->Sem Value}
  (hf:∀v u i x y c,Inv X pins d c i->RelV x v->RelV y u->R x y c->wpAny (model X.prog X.w) X.A (f v u) Q X.xe i):
  wpAny (model X.prog X.w) X.A (eval a X.env) (λv e=>wpAny (model X.prog X.w) X.A (eval b X.env) (λu g=>wpAny (model X.prog X.w) X.A (f v u) Q X.xe g) X.xe e) X.xe s:=by
 exact aN (ha pins s d H _ I h) λv k ⟨x,j,l,m,n⟩=>aN (hb pins k d j _ l n) λu i ⟨y,c,o,p,q⟩=>hf v u i x y c o m p q
theorem HA (ho:OpR X (iz op) r)(ha:PE X a ta)(hb:PE X b tb):PE X (.BinOp a op b pos) (wY r ta tb):=by intro c s d H Q I h;exact wpAny_BinOp (binT ha hb I h λv u e x y f g i j q=>ho c e d f x y v u Q g i j q)
theorem opI {g:Int->Int->Int}
  (a:∀i j t u s Q E,C i j->Q (.int (g i j) s.toks) {s with toks:=s.toks+1}->wpAny (model X.prog X.w) X.A (f (.int i t) (.int j u)) Q E s):
  OpR X f (rI C λi j=>.int (g i j)):=by
 rintro b s k H x y v u Q I c d ⟨i,j,rfl,rfl,e,q⟩
 obtain⟨t,rfl⟩:=c;obtain⟨h,rfl⟩:=d;exact a i j t h s _ _ e ⟨.int (g i j),H,I.tok _,⟨_,rfl⟩,q⟩
theorem opI0 {g:Int->Int->Int}
  (a:∀i j t u s Q E,Q (.int (g i j) s.toks) {s with toks:=s.toks+1}->wpAny (model X.prog X.w) X.A (f (.int i t) (.int j u)) Q E s):
  OpR X f (kO λi j=>.int (g i j)):=by
 rintro b s h H x y v u Q I c d ⟨i,j,rfl,rfl,q⟩
 obtain⟨t,rfl⟩:=c;obtain⟨e,rfl⟩:=d;exact a i j t e s _ _ ⟨.int (g i j),H,I.tok _,⟨_,rfl⟩,q⟩
theorem opB0 {g:Int->Int->Bool}
  (a:∀i j t u s Q E,Q (.bool (g i j)) s->wpAny (model X.prog X.w) X.A (f (.int i t) (.int j u)) Q E s):
  OpR X f (kO λi j=>.bl (g i j)):=by
 rintro b s h H x y v u Q I c d ⟨i,j,rfl,rfl,q⟩
 obtain⟨t,rfl⟩:=c;obtain⟨e,rfl⟩:=d;exact a i j t e s _ _ ⟨.bl (g i j),H,I,rfl,q⟩
def Cf (i j:Int):Prop:=0<=j/\j<=1000000/\i.natAbs<2 ^ 64
def rF (i j:Int):Prop:=(-(2 ^ 64)<i/\i<2 ^ 64)\/(-(2 ^ 64)<j/\j<2 ^ 64)
theorem rF.ok (h:rF i j):IntMulOk i j:=by
 rcases h with⟨a,b⟩|⟨a,b⟩
 .exact .of_left (intBits_le_64 a b)
 .exact .of_right (intBits_le_64 a b)
theorem Oc:OpR X (iz .Add) (kO λi j=>.int (i+j)):=opI0 λ_ _ _ _ _ _ _ q=>add_int q
theorem Od:OpR X (iz .Sub) (kO λi j=>.int (i-j)):=opI0 λ_ _ _ _ _ _ _ q=>sub_int q
theorem Oe:OpR X (iz .Mult) (rI rF λi j=>.int (i*j)):=opI λ_ _ _ _ _ _ _ a q=>mul_int q a.ok
theorem Of:OpR X (iz .Mod) (rI (λ_ j=>0<j) λi j=>.int (i%j)):=opI λi j _ _ _ _ _ a q=>by exact mod_int' (by omega) (by rw[Int.fmod_eq_emod_of_nonneg i (by omega)];exact q)
theorem Og:OpR X (iz .Pow) (rI Cf λi j=>.int (i ^ j.toNat)):=opI λ_ _ _ _ _ _ _ a q=>pow_int_small a.1 a.2.1 a.2.2 q
end
section
variable {X:Cx}{a b c:Expr}{ta tb tc:TE}{pos:Pos}
theorem Oh:OpR X (fi .Lt) (kO λi j=>.bl (decide (i<j))):=opB0 λ_ _ _ _ _ _ _ q=>lt_int q
theorem Oi:OpR X (fi .LtE) (kO λi j=>.bl (decide (i<=j))):=opB0 λ_ _ _ _ _ _ _ q=>le_int q
theorem Oj:OpR X (fi .Gt) (kO λi j=>.bl (decide (j<i))):=opB0 λ_ _ _ _ _ _ _ q=>gt_int q
theorem OpR.or (h:OpR X f r)(e:OpR X f g):OpR X f (λx y H Q=>r x y H Q\/g x y H Q):=by
 intro a s b H x y v u Q I c d q;rcases q with q|q
 .exact h a s b H x y v u Q I c d q
 .exact e a s b H x y v u Q I c d q
theorem Ol (ho:OpR X (fi op) r)(ha:PE X a ta)(hb:PE X b tb)(hm:iw op b=Z6):PE X (.Compare a [op] [b] pos) (wY r ta tb):=by intro c s d H Q I h;exact wpAny_Compare1 (binT ha hb I h λv u e x y f g i j q=>ho c e d f x y v u Q g i j q) hm
def HB (t:TE):TT:=λσ H Q=>t σ H λx H'=>∃k,x=.bl k/\Q k H'
theorem Om (ho:OpR X (fi op) r)(ha:PE X a ta)(hb:PE X b tb)(hm:iw op b=Z6):PT X (.Compare a [op] [b] pos) (HB (wY r ta tb)):=by intro d s f H Q I h;refine r6 (aN (ha d s f H _ I h) λv g ⟨x,i,j,l,m⟩=>aN (hb d g f i _ j m) λu n ⟨y,o,p,q,t⟩=>aN (ho d n f o x y v u _ p l q t) λc C ⟨z,w,A,r3,k,e,B⟩=>?_) hm;subst e;cases r3;exact i0 ⟨w,A,B⟩
def rG (K:Z5)(x:V)(H:Hp)(k:Bool):Prop:=
 match x with
 |.bK=>k=Z6
 |.bl b=>k=b
 |.int i=>k=(i != 0)
 |.str y=>y.length<=bj/\k=((y.length:Int) != 0)
 |.ref p=>(∃xs,SqL K H p xs/\k=!xs.isEmpty)\/(∃xs,cA K H p xs/\k=!xs.isEmpty)\/∃kvs,H p=Z9 (.dK kvs)/\k=!kvs.isEmpty
 |_=>False
theorem Oq (r:KV kvs vs):(!vs.isEmpty)=!kvs.isEmpty:=by cases r<;>rfl
theorem HC (r:Vals xs its):(!its.toArray.isEmpty)=!xs.isEmpty:=by cases r<;>simp
theorem rH:(bj:Nat)<2 ^ 63:=by rw[io];decide
theorem HD:Ce X (λx H Q=>∃k,rG X.K x H k/\Q k H):=by
 rintro g s o H x v Q I d ⟨k,e,q⟩
 have hl:=rH;cases x with
 |bK=>cases d;have a:=e;subst a;exact truthy_none ⟨H,I,q⟩
 |bl b=>cases d;have a:=e;subst a;exact i0 ⟨H,I,q⟩
 |int i=>obtain⟨t,rfl⟩:=d;have a:=e;subst a;exact PySem.P.truthy_int ⟨H,I,q⟩
 |str y=>obtain⟨t,rfl⟩:=d;obtain⟨u,rfl⟩:=e;exact PySem.P.truthy_str (by omega) ⟨H,I.tok _,q⟩
 |ref p=>
  cases d;have a:=e;rcases a with⟨j,hx,a⟩|⟨j,hx,a⟩|⟨l,hx,a⟩
  .subst a;obtain⟨f,r,pl,h⟩:=I.list hx;have c:=r.length;exact wpAny_truthy_list pl.isList (by grind) ⟨H,I.tok _,by rw[HC r];exact q⟩
  .subst a;obtain⟨f,r,pl,h⟩:=I.tuple hx;have c:=r.length;exact truthy_tuple pl (by grind) ⟨H,I.tok _,by rw[HC r];exact q⟩
  .subst a;obtain⟨h,n,w,r,m⟩:=I.hok p _ hx;have c:=Paired.length r;exact wpAny_truthy_dict n m (by omega) ⟨H,I.tok _,by rw[Oq r];exact q⟩
 |_=>exact e.elim
theorem zie (ha:PE X a ta)(f:∀b,sj a X.env b=(do let v <-b;wx a.pos;va [v] (w4 v))):
  PT X a (λd H Q=>ta d H λx e=>∃k,rG X.K x e k/\Q k e):=by
 intro c s d H Q I h;exact isTrue_plain (aN (ha c s d H _ I h) λv g ⟨x,i,j,l,m⟩=>HD c g d i x v Q j l m) (f _)
theorem Ot:OpR X (iz .Add) (λx y H Q=>∃i j,x=.str i/\y=.str j/\i.length+j.length<=bj/\Q (.str (i++j)) H):=by
 rintro a s f H x y v u Q I b c ⟨i,j,rfl,rfl,d,q⟩
 obtain⟨t,rfl⟩:=b;obtain⟨e,rfl⟩:=c;exact add_str (λe g=>⟨.str (i++j),H,I.tok _,⟨_,rfl⟩,q⟩) d
theorem vals1 (r:Vals [x] us):∃u,us=[u]/\RelV x u:=by
 cases r with
 |cons a b=>cases b;exact⟨_,rfl,a⟩
theorem vals2 (r:Vals [x,y] us):∃u a,us=[u,a]/\RelV x u/\RelV y a:=by
 cases r with
 |cons b c=>
  cases c with
  |cons r3 r4=>cases r4;exact⟨_,_,rfl,b,r3⟩
theorem Ou (d:X.calm=Z7):CallR X (.builtin "max") (λb H Q=>∃i j,b=[.int i,.int j]/\Q (.int (if j>i then j else i)) H):=by
 rintro c s e H b f Q I r ⟨i,j,rfl,q⟩
 obtain⟨u,g,rfl,⟨t,rfl⟩,h,rfl⟩:=vals2 r;refine max_two_ints (I.ok.hd d) λl m k=>⟨_,H,I.kept k,?_,q⟩;by_cases a:j>i
 .rw[xp a,xp a];exact⟨_,rfl⟩
 .rw[xq a,xq a];exact⟨_,rfl⟩
theorem Ov (hc:X.calm=Z7):CallR X (.builtin "min") (λxs H Q=>∃i j,xs=[.int i,.int j]/\Q (.int (if j<i then j else i)) H):=by
 rintro pins s σ H xs us Q I r ⟨i,j,rfl,q⟩
 obtain⟨u,w',rfl,⟨t,rfl⟩,t',rfl⟩:=vals2 r;refine min_two_ints (I.ok.hd hc) λh' tk k=>⟨_,H,I.kept k,?_,q⟩;by_cases hj:j<i
 .rw[xp hj,xp hj];exact⟨_,rfl⟩
 .rw[xq hj,xq hj];exact⟨_,rfl⟩
theorem Ox:CallR X (.type "int") (λa H Q=>(∃i,a=[.int i]/\Q (.int i) H)\/∃k,a=[.bl k]/\Q (.int (if k then 1 else 0)) H):=by
 intro b s c H a d Q I r h;rcases h with⟨i,rfl,q⟩|⟨k,rfl,q⟩
 .obtain⟨u,rfl,t,rfl⟩:=vals1 r;exact call_int_int ⟨.int i,H,I,⟨_,rfl⟩,q⟩
 .obtain⟨u,rfl,rfl⟩:=vals1 r;exact call_int_bool ⟨.int (if k then 1 else 0),H,I.tok _,⟨_,rfl⟩,q⟩
end
theorem gC.some_of (r:gC (Z9 v) o):∃u,o=Z9 u/\RelV v u:=by
 cases o with
 |none=>exact r.elim
 |some u=>exact⟨u,rfl,r⟩
section
variable {X:Cx}{pins:List (Addr×Obj)}{σ:St}{H:Hp}{s:ao}{A:dh}{E:Value->ao->Prop}{Q:Value->ao->Prop}{c:Value}{b:Bool}
inductive TyOf (K:Z5)(H:Hp):V->Value->Prop where
 |bK:TyOf K H .bK (.type "NoneType")
 |bl (x:Bool):TyOf K H (.bl x) (.type "bool")
 |int (i:Int):TyOf K H (.int i) (.type "int")
 |str (x:Str):TyOf K H (.str x) (.type "str")
 |lst {a:Addr} {xs:List V} (e:H a=Z9 (.lst xs)):TyOf K H (.ref a) (.type "list")
 |eU {a:Addr} {o:Obj} {xs:List V} (e:H a=Z9 (.eU o (.lst xs))):TyOf K H (.ref a) (.type "list")
 |tup {a:Addr} {xs:List V} (e:H a=Z9 (.tup xs)):TyOf K H (.ref a) (.type "tuple")
 |dK {a:Addr} {kvs:List (Key×V)} (e:H a=Z9 (.dK kvs)):TyOf K H (.ref a) (.type "dict")
theorem z2g (I:Inv X pins σ H s)(rx:RelV x u)(ty:TyOf X.K H x t)(e:W.kitOne X.K t c=Z9 b)(h:∀tk,Q (.bool b) {s with toks:=tk}):
  wpAny (model X.prog X.w) A (call (.builtin "isinstance") [u,c]) Q E s:=by
 cases ty with
 |bK=>cases rx;exact W.kia_one W.kitx_none I.eN True.intro e (λz=>nomatch z) h
 |bl y=>cases rx;exact W.kia_one W.kitx_bool I.eN True.intro e (λz=>nomatch z) h
 |int i=>obtain⟨t,q⟩:=rx;cases q;exact W.kia_one W.kitx_int I.eN True.intro e (λz=>nomatch z) h
 |str y=>obtain⟨t,q⟩:=rx;cases q;exact W.kia_one W.kitx_str I.eN True.intro e (λz=>nomatch z) h
 | @lst a xs ea=>cases rx;obtain⟨_,_,n,_,h1⟩:=(I.hok a _ ea);exact W.kia_one W.kitx_list I.eN ⟨_,h1,rfl⟩ e (λz=>nomatch z) h
 | @eU a ob xs ea=>cases rx;obtain⟨_,_,_,n,_,h1⟩:=(I.hok a _ ea);exact W.kia_one W.kitx_list I.eN ⟨_,h1,rfl⟩ e (λz=>nomatch z) h
 | @tup a xs ea=>cases rx;obtain⟨_,_,_,p⟩:=(I.hok a _ ea);obtain⟨o,h1,h2,_⟩:=p.tup;exact W.kia_one W.kitx_tuple I.eN ⟨o,h1,h2⟩ e (λz=>nomatch z) h
 | @dK a kvs ea=>cases rx;obtain⟨_,_,vs,_,⟨o,es,ep,h1,h2,_⟩⟩:=(I.hok a _ ea);exact W.kia_one W.kitx_dict I.eN ⟨o,h1,h2.1⟩ e (λz=>nomatch z) h
end
structure Room (k:Nat)(A:dh):Prop where
 hd:A.handled=Z8
 dp:A.depth+3*k+5<recursionLimit
 un:A.units+16*k+200<cLine
theorem Room.mono (r:Room k A)(h:j<=k):Room j A:=⟨r.hd,by have:=r.dp;omega,by have:=r.un;omega⟩
theorem Room.deeper (r:Room (k+1) A)(env:Env):Room k (A.deeper env):=⟨r.hd,by have:=r.dp;show A.depth+1+3*k+5<_;omega,by have:=r.un;show A.units+3+16*k+200<_;omega⟩
theorem Room.depth (r:Room k A):A.depth<recursionLimit:=by have:=r.dp;omega
theorem Room.units (r:Room k A):A.units+64<cLine:=by have:=r.un;omega
def wZ:TA:=λ_ H Q=>Q [] H
def Ci (ta:TE)(tr:TA):TA:=λσ H Q=>ta σ H λx H1=>tr σ H1 λxs H2=>Q (x::xs) H2
section
variable {X:Cx}{e:Expr}{es:List Expr}{te:TE}{t:TA}{pos:Pos}
theorem mM:PA X [] wZ:=λ_ _ _ _ H Q I h=>Calls.spliced_nil ⟨[],H,I,.nil,h⟩
theorem xA (ha:PE X e te)(hr:PA X es t)(hs:fh (e::es) X.env=(Z6,eval e X.env)::fh es X.env:=by rfl):PA X (e::es) (Ci te t):=by intro pos a s b H Q I h;rw[hs];refine pb (aN (ha a s b H _ I h) λu c ⟨x,d,f,g,i⟩=>?_);exact aN (hr pos a c b d _ f i) λo p ⟨j,k,l,m,n⟩=>⟨x::j,k,l,.cons g m,n⟩
def Cj (t:TA):TE:=λσ H Q=>t σ H λxs H1=>xs.length<=bj/\∀p,H1 p=Z8->Q (.ref p) (upd H1 p (.tup xs))
def Ck (t:TA):TE:=λσ H Q=>t σ H λxs H1=>xs.length<=bj/\∀p,H1 p=Z8->Q (.ref p) (upd H1 p (.lst xs))
theorem Oy {f}(h:PA X es t):PE X (.Tuple es f pos) (Cj t):=by intro a s g H Q I i;refine wpAny_Tuple_spliced (aN (h pos a s g H _ I i) λj c ⟨k,l,d,r,z,q⟩=>⟨by rw[<-r.length];exact z,?_⟩);refine⟨.ref c.heap.objs.size,upd l c.heap.objs.size (.tup k),d.laid (λb u e=>ac _ e) (ar _) ?_,rfl,q _ (d.hok.fresh (ar _))⟩;exact⟨z,j,r,⟨_,a7 _ rfl⟩⟩
theorem HE (h:PA X es t):PE X (.List es pos) (Ck t):=by intro a s f H Q I g;refine wpAny_List_spliced (aN (h pos a s f H _ I g) λi c ⟨j,k,d,r,z,q⟩=>⟨by rw[<-r.length];exact z,?_⟩);refine⟨.ref c.heap.objs.size,upd k c.heap.objs.size (.lst j),d.laid (λb u e=>ac _ e) (ar _) ?_,rfl,q _ (d.hok.fresh (ar _))⟩;exact⟨z,i,0,r,a7 _ rfl⟩
end
abbrev Sp:=List V->Hp->VK->XK->Prop
abbrev CXT:=List Env->Hp->ao->XK->Value->ao->Prop
structure rJ (P:b9)(w:World)(K:Z5)(mg:Str->Option Value)(base:Heap)(A:dh)(outer:List Env)(s:ao)(H:Hp):Prop where
 frames:A.frames=Z9 outer
 mod:Mod K mg base
 bs:∀b o,base.get? b=Z9 o->s.heap.get? b=Z9 o/\H b=Z8
 iS:base.objs.size<=s.heap.objs.size
 cP:s.heap.FunFrames base outer
 nO:∀b∈frs outer,H b=Z8
 hok:HOk P w H s.heap
 bare:o5 s.gens
def CE (outer:List Env)(P:b9)(w:World)(H:Hp)(s:ao)(Q:VK)(u:Value)(s':ao):Prop:=∃v H',s'.os=s.os/\o5 s'.gens/\Un (frs outer) [] H H' s.heap s'.heap/\HOk P w H' s'.heap/\RelV v u/\Q v H'
def CR (CX:CXT)(outer:List Env)(P:b9)(w:World)(H:Hp)(s:ao)(Q:VK)(E:XK)(r:xo)(s':ao):Prop:=
 match r with
 |.ok (.ret u)=>CE outer P w H s Q u s'
 |.ok _=>False
 |.error e=>CX outer H s E e s'
structure FnOk (P:b9)(w:World)(K:Z5)(mg:Str->Option Value)(base:Heap)(CX:CXT)(k:Nat)(f:Addr)(fd:ms)(ps:List Str)(sp:Sp):Prop where
 len:∀vs H Q E,sp vs H Q E->vs.length=ps.length
 run:∀(A:dh) (outer:List Env) (s:ao) (H:Hp) (args:Args) (us:List Value) (vs:List V) (Q:VK) (E:XK),Room k A->rJ P w K mg base A outer s H->tz s fd args (ps.zip us)->Vals vs us->sp vs H Q E->kz (model P w) A (.call (.ref f) args) (CR CX outer P w H s Q E) s
theorem FnOk.mono {K:Z5}(F:FnOk P w K mg base CX j f fd ps sp)(h:j<=k): FnOk P w K mg base CX k f fd ps sp:=⟨F.len,λA outer s H args us vs Q E hr=>F.run A outer s H args us vs Q E (hr.mono h)⟩
theorem FnOk.imp {K:Z5}(F:FnOk P w K mg base CX k f fd ps sp)
  (h:∀vs H Q E,Oz vs H Q E->sp vs H Q E):FnOk P w K mg base CX k f fd ps Oz:=
 ⟨λvs H Q E q=>F.len vs H Q E (h _ _ _ _ q),λA outer s H args us vs Q E hr he hb hv hs=>F.run A outer s H args us vs Q E hr he hb hv (h _ _ _ _ hs)⟩
section
variable {X:Cx}{pins:List (Addr×Obj)}{σ:St}{H:Hp}{s s':ao}
theorem Inv.xB (I:Inv X pins σ H s):rJ X.prog X.w X.K X.mg X.base X.A X.stack s H:=⟨I.ok.frames,I.ok.mod,I.bs,bo I.ok.iS I.sz,I.stack,I.fM,I.hok,I.bare⟩
theorem Inv.after (I:Inv X pins σ H s)(h:CE X.stack X.prog X.w H s Q u s'):EP X pins σ Q u s':=by obtain⟨v,c,os,bare,un,hok,r,q⟩:=h;obtain⟨e,g,d,t,a⟩:=s';obtain rfl:a=s.os:=os;exact⟨v,c,I.call un hok bare (λb z=>absurd z (by simp)),r,q⟩
end
def HF (sp:Sp)(dvs:List V)(E:XK)(t:TA):TE:=λσ H Q=>t σ H λvs H1=>sp (vs++dvs) H1 Q E
def Binds (K:Z5)(fd:ms)(ps:List Str)(ds:List Value):Prop:=∀(s:ao) (us:List Value),K.In s.heap->(us++ds).length=ps.length->tz s fd ⟨us,[]⟩ (ps.zip (us++ds))
theorem Binds.all {K:Z5}(h:∀a,a.length=ps.length->xb fd ⟨a,[]⟩=pure (ps.zip a)):Binds K fd ps []:=λs a _ hl=>by rw[dg]at hl ⊢;exact .of_eq (h a hl)
def zdb (CX:CXT)(X:Cx)(E:XK):Prop:=∀(pins:List (Addr×Obj)) (σ:St) (H:Hp) (s:ao) (e:Value) (s':ao),Inv X pins σ H s->CX X.stack H s E e s'->X.xe e s'
section
variable {X:Cx}{CX:CXT}{k:Nat}{f C:Addr}{fd:ms}{ps:List Str}{sp:Sp}{dvs:List V}{ds:List Value}{E:XK}{x m:Str}{p pos apos:Pos}{e o:Expr}{es:List Expr}{ta:TE}{t:TA}
theorem zpw (F:FnOk X.prog X.w X.K X.mg X.base CX k f fd ps sp)(hr:Room k X.A)(hb:Binds X.K fd ps ds)(hd:Vals dvs ds)(hx:zdb CX X E)
  (I:Inv X a d H s) (r:Vals g c) (h:sp (g++dvs) H Q E):wpAny (model X.prog X.w) X.A (call (.ref f) c) (EP X a d Q) X.xe s:=by
 have i:=r.append hd;refine qq (ja (F.run X.A X.stack s H ⟨c,[]⟩ (c++ds) (g++dvs) Q E hr I.xB (hb s c I.eN (i.length▸F.len _ _ _ _ h)) i h) λr j b=>?_);cases r with
 |error e=>exact hx a d H s e j I b
 |ok l=>
  cases l with
  |ret u=>exact I.after b
  |next=>exact False.elim b
  |brk=>exact False.elim b
  |cont=>exact False.elim b
theorem zl5 (F:FnOk X.prog X.w X.K X.mg X.base CX k f fd ps sp)(hr:Room k X.A)(g:Gl X x)(hm:X.mg x=Z9 (.ref f))(hk:W.keepIn X.K (.ref f)=Z7)(hb:Binds X.K fd ps ds)(hd:Vals dvs ds)(hx:zdb CX X E)
  (ha:PA X (e::es) t) (b:Y4 x:=by decide) (i:fh (e::es) X.env=(Z6,eval e X.env)::fh es X.env:=by rfl) (c:(oh pos (fh es X.env)).any (·.1)=false:=by rfl):
  PE X (.Call (.Name x p) (e::es) [] pos) (HF sp dvs E t):=by
 intro a s j H Q I h;refine jh (z3l I g hm ?_ b);refine W.callWith_K I.ok.mod.uK hk (aN (ha pos a s j H _ I h) λl m ⟨n,o,d,r,q⟩=>⟨d.eN,?_⟩) i c;exact zpw F hr hb hd hx d r q
structure Mk (K:Z5)(C f:Addr):Prop where
 makes:W.makesIn K C=Z7
 init:W.findIn K (.ref C) "__init__"=Z9 (Z9 (.ref f))
 fn:W.isFn K (.ref f)=Z7
 kp:W.keepIn K (.ref C)=Z7
end
def PK (X:Cx)(OA:List vc)(t:TA):Prop:=∀(pos:Pos) (pins:List (Addr×Obj)) (s:ao) (σ:St) (H:Hp) (Q:List V->Hp->Prop),Inv X pins σ H s->t σ H Q->wpAny (model X.prog X.w) X.A (evalAll ((backToKw pos (wm OA X.env)).map (·.2))) (AP X pins σ Q) X.xe s
structure FnScope (N P:List Str)(sc:Scope):Prop where
 kind:sc.kind=.function
 co:sc.isCoroutine=Z6
 gen:sc.isGenerator=Z6
 nd:N.Nodup
 pre:N.take P.length=P
 par:∀x∈P,sc.names.lookup x=Z9 .local\/sc.names.lookup x=Z9 .cell
 rK:∀y∈sc.names,y.2≠.free
theorem HG {a:Str->Option ji}:∀{binds:List (Str×Value)} {m:Str->Option Value},(∀v,(x,v)∉binds)->bindL a binds m x=m x
 | [],_,_=>rfl
 |(n,v)::r,m,h=>by
  unfold bindL;rw[HG λw b=>h w (av _ b)];split
  .have :x≠n:=by rintro rfl;exact h v ah
   simp[this]
  .rfl
theorem HH {a:Str->Option ji}:∀{binds:List (Str×Value)} {m:Str->Option Value},(∀v,(x,v)∉binds)->bindC a binds m x=m x
 | [],_,_=>rfl
 |(n,v)::r,m,h=>by
  unfold bindC;rw[HH λw b=>h w (av _ b)];split
  .rfl
  .have :x≠n:=by rintro rfl;exact h v ah
   simp[this]
theorem z71 {a:Str->Option ji}:∀{P:List Str} {b:List Value} {i:Nat} {m:Str->Option Value},P.Nodup->P[i]?=Z9 x->b[i]?=Z9 v->a x=Z9 .local->
  bindL a (P.zip b) m x=Z9 v
 | [],_,_,_,_,h,_,_=>by simp at h
 |_::_,[],_,_,_,_,h,_=>by simp at h
 |p::P,w::b,0,m,nd,c,d,hk=>by simp at c d;subst c;subst d;show bindL a ((p,w)::P.zip b) m p=_;unfold bindL;rw[HG λv e=>(bw.mp nd).1 (jt e).1,xp hk];simp
 |p::P,w::b,i+1,m,nd,c,d,hk=>by show bindL a ((p,w)::P.zip b) m x=_;exact z71 (bw.mp nd).2 (by simpa using c) (by simpa using d) hk
theorem z7r {a:Str->Option ji}:∀{P:List Str} {b:List Value} {i:Nat} {m:Str->Option Value},P.Nodup->P[i]?=Z9 x->b[i]?=Z9 v->a x≠Z9 .local->
  bindC a (P.zip b) m x=Z9 v
 | [],_,_,_,_,h,_,_=>by simp at h
 |_::_,[],_,_,_,_,h,_=>by simp at h
 |p::P,w::b,0,m,nd,c,d,hk=>by simp at c d;subst c;subst d;show bindC a ((p,w)::P.zip b) m p=_;unfold bindC;rw[HH λv e=>(bw.mp nd).1 (jt e).1,xq hk];simp
 |p::P,w::b,i+1,m,nd,c,d,hk=>by show bindC a ((p,w)::P.zip b) m x=_;exact z7r (bw.mp nd).2 (by simpa using c) (by simpa using d) hk
def start (N:List Str)(vs:List V):St:=vs.map Z9++bp (N.length-vs.length) Z8
def eW (CX:CXT)(P:b9)(w:World)(K:Z5)(mg:Str->Option Value)(base:Heap)(N:List Str)(qual:Str)(scope:Scope)(f:Addr)(cd:Value)(A:dh)(outer:List Env)(s:ao)(H:Hp)(E:XK):Cx where
 prog:=P
 w:=w
 K:=K
 mg:=mg
 base:=base
 A:=A.deeper (sr qual scope s.heap.objs.size f cd)
 N:=N
 s₀:=s
 eV:=H
 env:=sr qual scope s.heap.objs.size f cd
 outer:=outer
 stack:=sr qual scope s.heap.objs.size f cd::outer
 ex:=[]
 calm:=Z7
 fn:=λ_=>Z7
 pn:=[]
 xe:=λe s'=>wpAny (model P w) (A.deeper (sr qual scope s.heap.objs.size f cd)) (ve (sr qual scope s.heap.objs.size f cd) e) (λ_ mO=>CX outer H s E e mO) (λe' mO=>CX outer H s E e' mO) s'
theorem HI {sc:Scope}(h:sc.names.lookup x=Z9 .cell):∃c,(cellsFrom n sc.names []).lookup x=Z9 c:=by exact Option.isSome_iff_exists.mp (W.cellsFrom_some sc.names n [] (.inl h))
theorem zej {K:Z5}
  (S:FnScope N ps scope) (hd:A.handled=Z8) (j:rJ P w K mg base A outer s H) (hl:n.length=ps.length) (r:Vals n D)
  (x:InCallC s s.heap.objs.size (bindL (sr g scope s.heap.objs.size f cd).kindOf (ps.zip D) λ_=>Z8) (cellsFrom (s.heap.objs.size+1) scope.names []) (bindC (sr g scope s.heap.objs.size f cd).kindOf (ps.zip D) λ_=>Z8) F):
  Inv (eW G P w K mg base N g scope f cd A outer s H E) [] (start N n) H F:=by
 have I:=by have:=congrArg gq S.pre;rw[f8]at this;omega
 obtain⟨B,J,rfl,hk⟩:=x.done;have l:∀b,b∉(eW G P w K mg base N g scope f cd A outer s H E).ex:=λb z=>absurd (show b∈([]:List Addr)from z) (by simp);refine⟨⟨j.mod,S.kind,rfl,rfl,ar _,λy z c B d=>?_,λy m=>?_,λy c _ h=>?_,λ_=>hd,Around.frames_deeper j.frames,.inr ⟨rfl,rfl⟩,λb z=>absurd z (l b),j.bs,j.iS,λb _ _=>l b,λb z=>absurd z (l b),j.cP,j.nO,λ_ _ z=>by cases z⟩,rfl,j.bare,Un.kept hk,⟨_,x.toInCall.ns,λi y v B d L=>?_⟩,λy c h=>⟨_,x.cell y c h⟩,j.hok.fresh (ar _),λy c h=>?_,λp o=>absurd (show p∈([]:List (Addr×Obj))from o) (by simp),j.hok.kept hk,?_,λ_ _ z=>by cases z⟩
 .exact name_of_addr x.apart (PySem.mem_of_lookup B) (PySem.mem_of_lookup d)
 .have m:scope.names.lookup y=Z9 .cell\/scope.names.lookup y=Z9 .free:=m;rcases m with m|m
  .exact HI m
  .exact absurd rfl (S.rK _ (PySem.mem_of_lookup m))
 .exact mq (x.above y c (PySem.mem_of_lookup h))
 .have C:i<n.length:=by
   unfold start at d;by_cases C:i<n.length
   .exact C
   .rw[fy (by simpa using C)]at d;rw[gu]at d;split at d<;>cases d
  have ha:n[i]?=Z9 v:=by
   unfold start at d;rw[jl (by simpa using C),bt]at d;cases e:n[i]? with
   |none=>rw[e]at d;cases d
   |some a=>rw[e]at d;cases d;rfl
  obtain⟨u,hu,rv⟩:=r.get ha;have o:ps[i]?=Z9 y:=by rw[<-S.pre,List.getElem?_take_of_lt (by omega)];exact B
  have t:ps.Nodup:=S.pre▸S.nd.sublist (List.take_sublist _ _);refine⟨u,rv,?_⟩;rcases S.par y (bx o)with k|k
  .exact .inl ⟨k,z71 t o hu k⟩
  .obtain⟨c,e⟩:=HI k;refine .inr ⟨.inl k,c,e,?_⟩;have q:=x.cell y c e;rw[z7r t o hu (by show scope.names.lookup y≠_;rw[k];decide)]at q;exact q
 .exact j.hok.fresh (mq (x.above y c (PySem.mem_of_lookup h)))
 .unfold start;show _=N.length;rw[am,af,dz];omega
theorem zlv {K:Z5}{kV:Value}
  (M:K.lookup f=Z9 ⟨oc,od,.func (W.fnOf m a params g scope O kV C R an c ct),T⟩) (D:W.codeIn K c a=Z7) (S:FnScope N ps scope)
  (len:∀h H Q E,G h H Q E->h.length=ps.length)
  (j:∀A outer s H h Q E,Room k (A.deeper (sr a scope s.heap.objs.size f c))->G h H Q E->∃t,PSs (eW I P w K mg base N a scope f c A outer s H E) g t/\t {nx:=λ_ i=>Q .bK i,rt:=Q} (start N h) H):
  FnOk P w K mg base I (k+1) f (W.fnOf m a params g scope O kV C R an c ct) ps G:=by
 refine⟨len,λA outer s H args U h Q E hr p hb r z=>?_⟩;have L:=p.mod.uK.keeps λb o e=>(p.bs b o e).1
 have l:∀y∈ps.zip U,scope.names.lookup y.1=Z9 .local\/(scope.names.lookup y.1=Z9 .cell/\((cellsFrom (s.heap.objs.size+1) scope.names []).lookup y.1).isSome=Z7):=λ⟨n,v⟩ X=>by
  rcases S.par n (jt X).1 with q|q
  .exact .inl q
  .exact .inr ⟨q,W.cellsFrom_some _ _ _ (.inl q)⟩
 refine codeAny_call_function hr.depth (L _ _ M) rfl S.co S.gen rfl (W.codeRec_of L D) (hb _ _ _ _ ?_);refine wpAny_newFunctionEnv_cells S.kind l λenv Y s1 x=>?_;subst Y;refine⟨(p.mod.nolimit.keeps λb o e=>(p.bs b o e).1).keeps x.toInCall.keep,codeAny_func ?_⟩;obtain⟨t,ht,hq⟩:=j A outer s H h Q E (hr.deeper _) z;refine jg (ht [] s1 (start N h) H _ (zej S hr.hd p (len _ _ _ _ z) r x) hq) (λfl F hs=>?_) λe F hs=>hs;have B:∀{d:St} {i:Hp} {v:V} {u:Value},Inv (eW I P w K mg base N a scope f c A outer s H E) [] d i F->RelV v u->Q v i->CE outer P w H s Q u F:=λ{d i v u} J rv q=>⟨v,i,J.os,J.bare,J.base,J.hok,rv,q⟩;cases fl with
 |ret u=>obtain⟨v,d,i,J,rv,q⟩:=hs;exact B J rv q
 |next=>obtain⟨d,i,J,q⟩:=hs;exact B (v:=V.bK) J rfl q
 |brk=>obtain⟨_,_,_,q⟩:=hs;exact False.elim q
 |cont=>obtain⟨_,_,_,q⟩:=hs;exact False.elim q
section
variable {X:Cx}{x:Str}{p pos:Pos}{e:Expr}{es:List Expr}{t:TA}{id T:String}{r:List V->Hp->VK->Prop}
def xE (r:List V->Hp->VK->Prop)(t:TA):TE:=λσ H Q=>t σ H λvs H1=>r vs H1 Q
theorem zg2 (f:CallR X (.builtin id) r)(g:Gl X x)(hm:X.mg x=Z8)(i:c9 x=Z9 (.builtin id))(ha:PA X (e::es) t)(hn:x≠"__name__":=by decide)(b:Y4 x:=by decide)
  (j:fh (e::es) X.env=(Z6,eval e X.env)::fh es X.env:=by rfl) (c:(oh pos (fh es X.env)).any (·.1)=false:=by rfl):PE X (.Call (.Name x p) (e::es) [] pos) (xE r t):=by
 intro a s d H Q I h;refine jh (z3n I g hm i ?_ hn b);exact PyProof.Rows.callWith_builtin1 (aN (ha pos a s d H _ I h) λk l ⟨m,n,o,q,u⟩=>f a l d n m k Q o q u) j c
theorem zfo (f:CallR X (.type T) r)(g:Gl X x)(hm:X.mg x=Z8)(i:c9 x=Z9 (.type T))(ha:PA X (e::es) t)(hn:x≠"__name__":=by decide)(b:Y4 x:=by decide)
  (j:fh (e::es) X.env=(Z6,eval e X.env)::fh es X.env:=by rfl) (c:(oh pos (fh es X.env)).any (·.1)=false:=by rfl):PE X (.Call (.Name x p) (e::es) [] pos) (xE r t):=by
 intro a s d H Q I h;refine jh (z3n I g hm i ?_ hn b);exact PyProof.Rows.callWith_type1 (aN (ha pos a s d H _ I h) λk l ⟨m,n,o,q,u⟩=>f a l d n m k Q o q u) j c
end
section
variable {κ:Type} [DecidableEq κ]
def dO (kvs:List (κ×V))(k:κ):Option V:=(kvs.find? λkv=>decide (kv.1=k)).map (·.2)
def putK (kvs:List (κ×V))(k:κ)(v:V):List (κ×V):=if(kvs.any λkv=>decide (kv.1=k))=Z7 then kvs.map (λkv=>if kv.1=k then(kv.1,v)else kv)else kvs++[(k,v)]
def HJ (kvs:List (κ×V))(k:κ):List (κ×V):=kvs.filter λkv=>decide (kv.1≠k)
theorem HK {p:κ×V}(e:p.1=k):dO (p::r) k=Z9 p.2:=by simp[dO,oo,e]
theorem HL {p:κ×V}(e:¬p.1=k):dO (p::r) k=dO r k:=by simp[dO,oo,e]
theorem HM (a:List (κ×V))(k:κ)(v:V):(putK a k v).length<=a.length+1:=by
 unfold putK;split
 .rw[af];omega
 .rw[am,a8,List.length_nil];omega
theorem gC.fD (r:gC o u):o.isSome=u.isSome:=by
 cases o with
 |none=>cases u with
  |none=>rfl
  |some _=>exact r.elim
 |some _=>cases u with
  |none=>exact r.elim
  |some _=>rfl
theorem gC.getD (r:gC o u)(rd:RelV d a):RelV (o.getD d) (u.getD a):=by
 cases o with
 |none=>cases u with
  |none=>exact rd
  |some _=>exact r.elim
 |some _=>cases u with
  |none=>exact r.elim
  |some _=>exact r
theorem KV.val (r:KV a g)(k:κ):gC (dO a k) (vf g k):=by
 induction r with
 |nil=>exact True.intro
 | @cons p q ps c h t i=>
  obtain⟨f,j⟩:=h;by_cases e:p.1=k
  .have d:q.1=k:=f.symm.trans e;have b:vf (q::c) k=Z9 q.2:=by simp[vf,oo,d]
   rw[HK e,b];exact j
  .have d:¬q.1=k:=λz=>e (f.trans z);have b:vf (q::c) k=vf c k:=by simp[vf,oo,d]
   rw[HL e,b];exact i
theorem KV.any (r:KV a c)(k:κ):(a.any λb=>decide (b.1=k))=c.any λb=>decide (b.1=k):=by
 induction r with
 |nil=>rfl
 |cons h t d=>rw[p7,p7,d,h.1]
theorem KV.repl (r:KV c d)(k:κ)(f:RelV y u):
  KV (c.map λa=>if a.1=k then(a.1,y)else a) (d.map λa=>if a.1=k then(a.1,u)else a):=by
 induction r with
 |nil=>exact .nil
 | @cons p q ps j h t g=>
  rw[bg,bg];refine .cons ?_ g;obtain⟨b,i⟩:=h;by_cases e:p.1=k
  .rw[xp e,xp (b.symm.trans e)];exact⟨b,f⟩
  .rw[xq e,xq (λz=>e (b.trans z))];exact⟨b,i⟩
theorem KV.put (r:KV a b)(k:κ)(c:RelV y u):KV (putK a k y) (stored b k u):=by
 unfold putK stored;rw[r.any k];by_cases e:(b.any λd=>decide (d.1=k))=Z7
 .rw[xp e,xp e];exact r.repl k c
 .rw[xq e,xq e];exact Paired.snoc r ⟨rfl,c⟩
theorem KV.drop (r:KV kvs vs)(k:κ):KV (HJ kvs k) (without vs k):=by
 unfold HJ without
 induction r with
 |nil=>exact .nil
 | @cons p q ps qs h t ih=>
  obtain⟨h1,h2⟩:=h;rw[List.filter_cons,List.filter_cons];by_cases e:p.1=k
  .have a:¬decide (p.1≠k)=true:=by simp[e]
   have b:¬decide (q.1≠k)=true:=by simp[h1.symm.trans e]
   rw[xq a,xq b];exact ih
  .have e':¬q.1=k:=λz=>e (h1.trans z);have a:decide (p.1≠k)=true:=by simp[e]
   have b:decide (q.1≠k)=true:=by simp[e']
   rw[xp a,xp b];exact .cons ⟨h1,h2⟩ ih
theorem KV.length (r:KV a vs):a.length=vs.length:=Paired.length r
end
theorem uP (r:RelV (kV k) u):(mL P w).is k u=true:=by
 cases k with
 |inl i=>obtain⟨t,e⟩:=r;subst e;exact Nw P w i t
 |inr x=>obtain⟨t,e⟩:=r;subst e;exact Ny P w x t
section
variable {P:b9}{w:World}{H:Hp}{h:Heap}{a:Addr}
theorem OB (ok:HOk P w H h)(e:Rd H a u):z16 P w H h a u:=e.ok ok
theorem rL (ok:HOk P w H h)(e:Rd H a (.dK b)):b.length<=bj/\(a==o9)=Z6/\∃c,KV b c/\h.DictOf (mL P w) a c:=show z16 P w H h a (.dK b)from OB ok e
theorem z6 (ok:HOk P w H h)(e:H a=Z9 (.dK b)):b.length<=bj/\(a==o9)=Z6/\∃c,KV b c/\h.DictOf (mL P w) a c:=rL ok (.inl e)
end
def DGet (H:Hp)(a:Addr)(y:V)(r:Option V):Prop:=∃kvs k,Rd H a (.dK kvs)/\y=kV k/\r=dO kvs k
def DPut (H:Hp)(a:Addr)(y v:V)(H':Hp):Prop:=∃kvs k,H a=Z9 (.dK kvs)/\y=kV k/\kvs.length<bj/\H'=upd H a (.dK (putK kvs k v))
theorem DGet.k {k:Key}(e:H a=Z9 (.dK kvs)):DGet H a (kV k) (dO kvs k):=⟨kvs,k,.inl e,rfl,rfl⟩
theorem DPut.k {k:Key}(e:H a=Z9 (.dK kvs))(hl:kvs.length<bj):DPut H a (kV k) v (upd H a (.dK (putK kvs k v))):=⟨kvs,k,e,rfl,hl,rfl⟩
section
variable {X:Cx}{pins:List (Addr×Obj)}{σ:St}{H:Hp}{s:ao}{a:Addr}{y v:V}{u r:Value}{o:Option V}{A:dh}{E:Value->ao->Prop}
theorem Inv.big (I:Inv X pins σ H s):o9<s.heap.objs.size:=by exact o6 (by decide) ((I.mod.glob.keeps I.bk).lt)
theorem zdr (hu:A.units+1<cLine)(I:Inv X pins σ H s)(g:DGet H a y (Z9 v))(ry:RelV y u)(h:∀w' s',Inv X pins σ H s'->RelV v w'->Q w' s'):
  wpAny (model X.prog X.w) A (vg (.ref a) u) Q E s:=by
 obtain⟨kvs,k,e,ey,l⟩:=g
 .subst ey;obtain⟨z,hd,vs,rel,dd⟩:=rL I.hok e;obtain⟨w',hw,OC⟩:=gC.some_of (l▸rel.val k);exact wpAny_getItem_of (uP ry) dd.mapOf hw (h w' _ (I.tok _) OC)
theorem d_in (hu:A.units+1<cLine)(I:Inv X pins σ H s)(g:DGet H a y o)(ry:RelV y u)(h:∀s',Inv X pins σ H s'->Q (.bool o.isSome) s'):
  wpAny (model X.prog X.w) A (fi .In u (.ref a)) Q E s:=by
 obtain⟨kvs,k,e,ey,l⟩:=g
 .subst ey;obtain⟨z,hd,vs,rel,dd⟩:=rL I.hok e;refine wpAny_in_of (uP ry) hd dd.mapOf ?_;rw[<-(rel.val k).fD,<-l];exact h _ (I.tok _)
theorem zmx (hu:A.units+1<cLine)(I:Inv X pins σ H s)(g:DGet H a y o)(ry:RelV y u)(h:∀s',Inv X pins σ H s'->Q (.bool (!o.isSome)) s'):
  wpAny (model X.prog X.w) A (fi .NotIn u (.ref a)) Q E s:=by
 obtain⟨kvs,k,e,ey,l⟩:=g
 .subst ey;obtain⟨z,hd,vs,rel,dd⟩:=rL I.hok e;refine wpAny_notIn_of (uP ry) hd dd.mapOf ?_;rw[<-(rel.val k).fD,<-l];exact h _ (I.tok _)
theorem zep (I:Inv X pins σ H s)(mu:Mut (H a))(hs:bu a s.heap c)(e:∃q,c.get? a=Z9 q)(new:z16 X.prog X.w (upd H a d) c a d):
  Inv X pins σ (upd H a d) {s with heap:=c,toks:=t'}:=
 I.write mu (.inl rfl) (λb q hb z=>(hs.2 b hb).trans z) e new
theorem HN (z:b.length<=bj)(hd:(a==o9)=Z6)(rel:KV b c)(dd:d.DictOf (mL P w) a c): z16 P w e d a (.dK b):=⟨z,hd,c,rel,dd⟩
theorem zdg (hu:A.units+1<cLine)(I:Inv X pins σ H s)(g:DPut H a y v H')(ry:RelV y u)(rv:RelV v r)(h:∀s',Inv X pins σ H' s'->Q () s'):
  wpAny (model X.prog X.w) A (setItem (.ref a) u r) Q E s:=by
 obtain⟨kvs,k,e,ey,l,eH⟩:=g
 .subst ey eH;obtain⟨z,hd,vs,rel,dd⟩:=z6 I.hok e;have hz:vs.length<=bj:=rel.length▸z;exact wpAny_setItem_pairs (uP ry) dd λh' HP hs=>h _ (zep I (e▸True.intro) hs (let⟨q,_,_,hq,_⟩:=HP;⟨q,hq⟩) (HN (by have:=HM kvs k v;omega) hd (rel.put k rv) HP))
end
section
variable {X:Cx}{pins:List (Addr×Obj)}{σ:St}{H:Hp}{s:ao}{a:Addr}{kvs:List (Key×V)}{k:Key}{u:Value}{A:dh}{E:Value->ao->Prop}
theorem OD (I:Inv X pins σ H s)(e:Rd H a (.dK kvs))(h:∀t b,Inv X pins σ H b->Q (.int kvs.length t) b):wpAny (model X.prog X.w) A (call (.builtin "len") [.ref a]) Q E s:=by obtain⟨z,hd,c,rel,dd⟩:=rL I.hok e;refine call_len_dict hd dd (by rw[<-rel.length];rw[io]at z;omega) ?_;rw[<-rel.length];exact h _ _ (I.tok _)
end
theorem OE (I:Inv X pins σ H s)(g:DGet H a y o):s.TypeIs (.ref a) "dict":=by
 obtain⟨kvs,k,e,_,_⟩:=g
 .obtain⟨_,_,vs,_,dd⟩:=rL I.hok e;exact dd.typeIs
theorem HQ (h:Heap)(hb:o9<h.objs.size):z16 P w H (h.push {cls:=.type "dict",data:=.dict #[]}) h.objs.size (.dK []):=⟨dr _,beq_eq_false_iff_ne.mpr (Ne.symm (br hb)),[],.nil,Heap.DictOf.new h⟩
def OF:TE:=λ_ H Q=>∀p,H p=Z8->Q (.ref p) (upd H p (.dK []))
section
variable {X:Cx}{pos:Pos}
theorem OG:PE X (.Dict [] [] pos) OF:=λa s b H Q I h=>wpAny_Dict_empty ⟨.ref s.heap.objs.size,_,I.laid (λ_ _ q=>ac _ q) (ar _) (HQ s.heap I.big),rfl,h _ (I.hok.fresh (ar _))⟩
end
section
variable {X:Cx}{pins:List (Addr×Obj)}{σ:St}{H:Hp}{s:ao}{a:Addr}{y d:V}{u r:Value}{o:Option V}{A:dh}{E:Value->ao->Prop}
theorem zr3 (hu:A.units+1<cLine)(I:Inv X pins σ H s)(g:DGet H a y o)(ry:RelV y u)(rd:RelV d r)(h:∀w' s',Inv X pins σ H s'->RelV (o.getD d) w'->Q w' s'):
  wpAny (model X.prog X.w) A (call (.builtin "dict.get") [.ref a,u,r]) Q E s:=by
 obtain⟨kvs,k,e,ey,l⟩:=g
 .subst ey;obtain⟨z,hd,vs,rel,dd⟩:=rL I.hok e;refine call_meetsIn PySem.F.slot_dict_get dd.typeIs PySem.F.entry_dict_get (PySem.F.args_dict_get_3 _ _ _) (meets_dict_get_default (mL X.prog X.w) a (uP ry) hd r) ⟨_,dd.mapOf,h _ _ (I.tok _) ?_⟩;rw[l];exact(rel.val k).getD rd
end
end L2
namespace HT
open PySem PyProof.Rows
section
variable {prog:b9}{w:World}{A:dh}{E:Value->ao->Prop}{s:ao}
theorem cat_tup (ht:IsTup s.heap t c.toArray)(hb:IsTup s.heap b ws.toArray)(l:c≠[])
  (p:ws=[]->Q (.ref t) s) (q:ws≠[]->Q (.ref s.heap.objs.size) {s with heap:=s.heap.push {cls:=.type "tuple",data:=.seq (c++ws).toArray}})
  (d:c.length+ws.length<=bj):wpAny (model prog w) A (iz .Add (.ref t) (.ref b)) Q E s:=by
 obtain⟨⟨cls,dd,data,sl⟩,ho,r,n,hd⟩:=id ht;obtain⟨⟨m,f,i,g⟩,a,j,o,k⟩:=id hb;subst r hd j k;have e:c.toArray++ws.toArray=(c++ws).toArray:=by simp
 by_cases h:ws=[]
 .exact qr ⟨_,ho,rfl⟩ ⟨_,a,rfl⟩ qg ug PySem.F.slot_tuple_add PySem.F.entry_tuple_add (PySem.F.args_tuple_add_2 _ _) (tuple_addW1 t b c.toArray ws.toArray n o dd f sl g (by simpa using l) (by simp[h])) ⟨ho,a,p h⟩
 .refine qr ⟨_,ho,rfl⟩ ⟨_,a,rfl⟩ qg ug PySem.F.slot_tuple_add PySem.F.entry_tuple_add (PySem.F.args_tuple_add_2 _ _)
   (tuple_addW2 t b c.toArray ws.toArray n o dd f sl g (by simpa using l) (by simpa using h) (bn▸d)) ⟨ho,a,?_⟩
  rw[e];exact q h
def bA (n d:Nat):Option Int->Nat
 |none=>d
 |some v=>if v<0 then(v+(n:Int)).toNat else min v.toNat n
theorem rM (n d:Nat)(hd:d<=n)(o:Option Int):bA n d o<=n:=by
 cases o with
 |none=>exact hd
 |some v=>
  show(if v<0 then(v+n).toNat else min v.toNat n)<=n;by_cases a:v<0
  .rw[xp a];omega
  .rw[xq a];exact Nat.min_le_right _ _
theorem HR (v:Int)(n d:Nat):(if v<0 then max (v+(n:Int)) 0 else min v (n:Int))=((bA n d (Z9 v):Nat):Int):=by
 show(if v<0 then max (v+n) 0 else min v n)=(((if v<0 then(v+n).toNat else min v.toNat n):Nat):Int);by_cases a:v<0
 .simp only[xp a];omega
 .simp only[xq a];omega
theorem OH (a b:Option Int)(n:Nat):pw a b 1 (n:Int)=(((bA n 0 a:Nat):Int),((bA n n b:Nat):Int)):=by
 refine Prod.ext ?_ ?_
 .cases a with
  |none=>rfl
  |some v=>exact HR v n 0
 .cases b with
  |none=>rfl
  |some v=>exact HR v n n
theorem OI (i j:Nat):jm (i:Int) (j:Int) 1=j-i:=by unfold jm;split<;>omega
theorem HS (p:uu v o)(h:Q o s):wpAny (model prog w) A (Builtin.Slice.slicePartIndex v) Q E s:=by
 cases p with
 |none=>exact slicePart_none h
 |int i t=>exact slicePart_int h
theorem z3r {a:Option Int}{n:Nat}(hs:s.heap.IsSliceOf sl e f .none)(pl:uu e a)(pu:uu f d)
  (h:Q (((bA n 0 a:Nat):Int),1,bA n n d-bA n 0 a) s):wpAny (model prog w) A (Builtin.Slice.sliceApplied (.ref sl) (pure n)) Q E s:=by
 obtain⟨os,b,g,c⟩:=id hs;refine aa (aa (d8 b c rfl (aa (d8 b c rfl (aa (d8 b c rfl (ae ?_)))))));refine aa (slicePart_none ?_);refine aa (HS pl (aa (HS pu (aa (ae ?_)))));show wpAny _ _ (match pw a d 1 n with|(a,d)=>pure (a,(1:Int),jm a d 1)) _ _ s;rw[OH a d n];show wpAny _ _ (pure (((bA n 0 a:Nat):Int),1,jm ((bA n 0 a:Nat):Int) ((bA n n d:Nat):Int) 1)) _ _ s;rw[OI];exact ae h
theorem OJ (a:Array Value)(i k:Nat):((cr k).filterMap λ(m:Nat)=>a[((i:Int)+(m:Int)*1).toNat]?).toArray=((a.toList.drop i).take k).toArray:=by
 have e:(λ(m:Nat)=>a[((i:Int)+m*1).toNat]?)=λm=>a[i+m]?:=by
  funext m
  have:((i:Int)+m*1).toNat=i+m:=by omega
  rw[this]
 rw[e];have:=pick_run a i k;rw[List.filterMap_map]at this;have b:((λx=>a[x]?)∘λx=>i+x)=λm=>a[i+m]?:=rfl;rw[b]at this;rw[this]
theorem getItem_tuple_cut {b:Option Int}(ht:IsTup s.heap t items)(hs:s.heap.IsSliceOf sl i j .none)(pl:uu i b)(pu:uu j c)
  (k:¬(bA items.size 0 b=0/\bA items.size items.size c=items.size))
  (h:Q (.ref s.heap.objs.size) {s with heap:=s.heap.push {cls:=.type "tuple",data:=.seq ((items.toList.drop (bA items.size 0 b)).take (bA items.size items.size c-bA items.size 0 b)).toArray}})
  (g:items.size<=bj):wpAny (model prog w) A (vg (.ref t) (.ref sl)) Q E s:=by
 have a:sizeOk (.seq ((items.toList.drop (bA items.size 0 b)).take (bA items.size items.size c-bA items.size 0 b)).toArray):=by show((items.toList.drop (bA items.size 0 b)).take (bA items.size items.size c-bA items.size 0 b)).toArray.size<=bj;rw[bn,f8,jd,bq];omega
 obtain⟨os,d,e,l⟩:=id hs;unfold vg
 try with_reducible refine cq ?_
 first|refine aa (ae ?_)|skip
 refine aa (wpAny_sequenceKey ht.typeIs (by decide) ?_);refine aa (i6 ht.typeIs PyProof.Rows.slot_tuple_getitem (f9 PyProof.Rows.slot_tuple_getitem ht.typeIs entry_tuple_getitem ?_ (args_tuple_getitem _ _)));show wpAny _ _ (pc (.ref t)>>=_) _ _ s;refine aa (tupleItemsOf_ ht ?_);refine aa (mw ⟨os,d,e⟩ ?_);refine aa (z3r hs pl pu ?_);have f:¬((((bA items.size 0 b:Nat):Int)==0&&(1:Int)==1&&(bA items.size items.size c-bA items.size 0 b)==items.size)=Z7):=by intro q;rw[ax,ax]at q;have m:=eq_of_beq q.1.1;have n:=eq_of_beq q.2;exact k ⟨by omega,by omega⟩
 show wpAny _ _ (if(((bA items.size 0 b:Nat):Int)==0&&1==1&&(bA items.size items.size c-bA items.size 0 b)==items.size)=Z7 then _ else _) _ _ s;rw[xq f,OJ]
 first
  |exact aa (ju (ae ⟨_,rfl,ae h⟩) a)
  |exact aa (ju (aa (ae (ae ⟨_,rfl,ae h⟩))) a)
  |exact aa (aa (ju (ae (ae ⟨_,rfl,ae h⟩)) a))
  |exact aa (aa (ju (ae ⟨_,rfl,ae h⟩) a))
end
end HT
namespace L2
open PySem PySem.Spec PyProof.Rows
abbrev TO:=St->Hp->(Option Int->Hp->Prop)->Prop
def PO (X:Cx)(e:Option Expr)(t:TO):Prop:=∀(pins:List (Addr×Obj)) (s:ao) (σ:St) (H:Hp) (Q:Option Int->Hp->Prop),Inv X pins σ H s->t σ H Q->wpAny (model X.prog X.w) X.A (evalPart e X.env) (λu s'=>∃o H',Inv X pins σ H' s'/\uu u o/\Q o H') X.xe s
def OK:TO:=λ_ H Q=>Q Z8 H
def OL (t:TE):TO:=λσ H Q=>t σ H λx H1=>∃i,x=.int i/\Q (Z9 i) H1
theorem intsAre_of:∀{a:List Value},Vals (ns.map V.int) a->t5 a ns:=by
 induction ns with
 |nil=>intro a r;rw[List.map_nil]at r;cases r;exact .nil
 |cons n ns b=>
  intro a r;cases r with
  |cons c d=>obtain⟨t,rfl⟩:=c;exact .cons n t (b d)
section
variable {X:Cx}{e:Expr}{te:TE}{lo hi:Option Expr}{tl th:TO}{pos p2:Pos}
theorem OM:PO X Z8 OK:=by intro a s b H Q I h;exact ae ⟨Z8,H,I,.none,h⟩
theorem ON (h:PE X e te):PO X (Z9 e) (OL te):=by intro a s b H Q I c;refine aN (h a s b H _ I c) λu k ⟨x,d,f,g,j⟩=>?_;obtain⟨i,rfl,q⟩:=j;obtain⟨t,rfl⟩:=g;exact⟨Z9 i,d,f,.int i t,q⟩
def mP (X:Cx)(r:V->Option Int->Option Int->Hp->VK->Prop):Prop:=∀(pins:List (Addr×Obj)) (s:ao) (σ:St) (H:Hp) (x:V) (v vl vu:Value) (lo hi:Option Int) (sl:Addr) (Q:VK),Inv X pins σ H s->RelV x v->s.heap.IsSliceOf sl vl vu .none->uu vl lo->uu vu hi->r x lo hi H Q->∃T id,typeLookup (.type T) "__getitem__"=pure (Z9 (.builtin id))/\s.TypeIs v T/\wpAny (model X.prog X.w) X.A (vg v (.ref sl)) (EP X pins σ Q) X.xe s
theorem mP.or (h:mP X r)(f:mP X g):mP X (λx lo hi H Q=>r x lo hi H Q\/g x lo hi H Q):=by
 intro a s b H x v c d lo hi sl Q I e hs pl pu q;rcases q with q|q
 .exact h a s b H x v c d lo hi sl Q I e hs pl pu q
 .exact f a s b H x v c d lo hi sl Q I e hs pl pu q
def OO (r:V->Option Int->Option Int->Hp->VK->Prop)(te:TE)(tl th:TO):TE:=λσ H Q=>te σ H λx H1=>tl σ H1 λl H2=>th σ H2 λu H3=>r x l u H3 Q
theorem OP (hr:mP X r)(j:PE X e te)(hl:PO X lo tl)(hu:PO X hi th):PE X (.Subscript e (.Slice lo hi Z8 p2) pos) (OO r te tl th):=by intro a s c H Q I h;refine Subscript_ (aN (j a s c H _ I h) λv k ⟨x,m,n,o,p⟩=>?_);refine wpAny_Slice (aN (hl a k c m _ n p) λf t ⟨l,w,y,pl,z⟩=>aN (hu a t c w _ y z) λg d ⟨u,i,A,pu,B⟩=>?_);refine ae ?_;have C:Inv X a c i {d with heap:=d.heap.push {cls:=.type "slice",data:=.fields #[f,g,.none]}}:=A.kept λb F q=>ac _ q;obtain⟨T,id,D,ht,E⟩:=hr a {d with heap:=d.heap.push {cls:=.type "slice",data:=.fields #[f,g,.none]}} c i x v f g l u d.heap.objs.size Q C o (Heap.IsSliceOf.new ..) pl pu B;exact tail_any ht D E (by with_unfolding_all rfl)
def nT (xs:List V)(lo hi:Option Int):List V:=(xs.drop (HT.bA xs.length 0 lo)).take (HT.bA xs.length xs.length hi-HT.bA xs.length 0 lo)
theorem HU (a:List V)(lo hi:Option Int):(nT a lo hi).length<=a.length:=by unfold nT;rw[f8,jd];omega
def Cm (K:Z5):V->Option Int->Option Int->Hp->VK->Prop:=λx lo hi H Q=>∃a xs,x=.ref a/\cA K H a xs/\¬(HT.bA xs.length 0 lo=0/\HT.bA xs.length xs.length hi=xs.length)/\∀p,H p=Z8->Q (.ref p) (upd H p (.tup (nT xs lo hi)))
theorem OQ:mP X (Cm X.K):=by
 rintro f s j H x v k l lo hi sl Q I h hs pl pu ⟨a,d,rfl,hx,i,q⟩
 cases h;obtain⟨e,r,ht,g⟩:=I.tuple hx;have c:e.toArray.size=d.length:=bn▸r.length.symm;refine⟨"tuple",_,PyProof.Rows.slot_tuple_getitem.lookup,ht.typeIs,?_⟩;refine HT.getItem_tuple_cut ht hs pl pu (c▸i) ?_ (c▸g);rw[c];refine⟨.ref s.heap.objs.size,_,I.laid (λb m q=>ac _ q) (ar _) ?_,rfl,q _ (I.hok.fresh (ar _))⟩;exact⟨bo (HU d lo hi) g,_,(r.drop (HT.bA d.length 0 lo)).take (HT.bA d.length d.length hi-HT.bA d.length 0 lo),TupN.new _ _⟩
def HV (K:Z5):R2:=λx y H Q=>∃a b xs ys,x=.ref a/\y=.ref b/\cA K H a xs/\cA K H b ys/\xs≠ []/\xs.length+ys.length<=bj/\(ys=[]->Q (.ref a) H)/\(ys≠[]->∀p,H p=Z8->Q (.ref p) (upd H p (.tup (xs++ys))))
theorem Vals.fN (r:Vals a b):b=[]↔a=[]:=by
 cases r with
 |nil=>simp
 |cons _ _=>simp
theorem OR:OpR X (iz .Add) (HV X.K):=by
 rintro e s n H x y v u Q I h i ⟨a,b,o,p,rfl,rfl,ha,hb,hx,f,j,k⟩
 cases h;cases i;obtain⟨l,d,m,_⟩:=I.tuple ha;obtain⟨g,c,p2,_⟩:=I.tuple hb;refine HT.cat_tup m p2 (λz=>hx (d.fN.mp z)) (λz=>⟨.ref a,H,I,rfl,j (c.fN.mp z)⟩) (λz=>?_) (by rw[<-d.length,<-c.length];exact f);refine⟨.ref s.heap.objs.size,_,I.laid (λb r q=>ac _ q) (ar _) ?_,rfl,k (λw=>z (c.fN.mpr w)) _ (I.hok.fresh (ar _))⟩;exact⟨by rw[am];exact f,_,d.append c,TupN.new _ _⟩
end
def iT (n:Nat)(i:Int):Option Nat:=if 0<=i then(if i<n then Z9 i.toNat else Z8)else if -(n:Int)<=i then Z9 (i+n).toNat else Z8
def cY {α:Type}(xs:List α)(i:Int):Option α:=(iT xs.length i).bind λj=>xs[j]?
theorem HW (h:iT n i=Z9 j):seqIndex? i n=Z9 j/\j<n/\-(n:Int)<=i/\i<n:=by
 unfold iT at h;by_cases h0:0<=i
 .rw[xp h0]at h;by_cases a:i<n
  .rw[xp a]at h;have e:=xr h;exact⟨by rw[wo h0 a,e],by omega,by omega,a⟩
  .rw[xq a]at h;cases h
 .rw[xq h0]at h;by_cases a:-n<=i
  .rw[xp a]at h;have e:=xr h;exact⟨by rw[vh (by omega) a,e],by omega,a,by omega⟩
  .rw[xq a]at h;cases h
theorem Cn (h:cY a i=Z9 v):∃j,seqIndex? i a.length=Z9 j/\a[j]?=Z9 v/\j<a.length/\-(a.length:Int)<=i/\i<a.length:=by
 unfold cY at h;cases e:iT a.length i with
 |none=>rw[e]at h;cases h
 |some j=>rw[e]at h;obtain⟨b,c,d,f⟩:=HW e;exact⟨j,b,h,c,d,f⟩
def HX (b:Expr):Prop:=∀o i,subscripted b Z6 o i=operate [o,i] (vg o i)
def kP (X:Cx)(r:R2):Prop:=∀(value slice:Expr) (pins:List (Addr×Obj)) (s:ao) (σ:St) (H:Hp) (x y:V) (v u:Value) (Q:VK),Inv X pins σ H s->RelV x v->RelV y u->r x y H Q->subscripted slice Z6 v u=operate [v,u] (vg v u)->wpAny (model X.prog X.w) X.A (subscriptTail value slice v u) (EP X pins σ Q) X.xe s
def MtR (X:Cx)(id:String)(r:V->List V->Hp->VK->Prop):Prop:=∀(pins:List (Addr×Obj)) (s:ao) (σ:St) (H:Hp) (x:V) (xs:List V) (v:Value) (us:List Value) (Q:VK),Inv X pins σ H s->RelV x v->Vals xs us->r x xs H Q->wpAny (model X.prog X.w) X.A (call (.builtin id) (v::us)) (EP X pins σ Q) X.xe s
section
variable {X:Cx}{a b:Expr}{ta tb:TE}{pos:Pos}
theorem kP.or (h:kP X r)(g:kP X i):kP X (λx y H Q=>r x y H Q\/i x y H Q):=by
 intro a b c s d H x y v u Q I e f q hs;rcases q with q|q
 .exact h a b c s d H x y v u Q I e f q hs
 .exact g a b c s d H x y v u Q I e f q hs
theorem OS (hr:kP X r)(ha:PE X a ta)(hb:PE X b tb)(hs:HX b):PE X (.Subscript a b pos) (wY r ta tb):=by intro c s d H Q I h;exact Subscript_ (binT ha hb I h λv u e x y f g i j q=>hr a b c e d f x y v u Q g i j q (hs _ _))
def xF (K:Z5):R2:=λx y H Q=>∃p xs i v,x=.ref p/\y=.int i/\SqL K H p xs/\cY xs i=Z9 v/\Q v H
def xG (K:Z5):R2:=λx y H Q=>∃p xs i v,x=.ref p/\y=.int i/\cA K H p xs/\cY xs i=Z9 v/\Q v H
def xH:R2:=λx y H Q=>∃z i c,x=.str z/\y=.int i/\z.length<=bj/\cY z.cps.toList i=Z9 c/\Q (.str ⟨#[c]⟩) H
theorem OT:kP X (xF X.K):=by
 intro d e a s m H x y v u Q I n o h hs;obtain⟨p,F,i,z,rfl,rfl,A,B,q⟩:=h;cases n;obtain⟨t,rfl⟩:=o;obtain⟨f,r,pl,G⟩:=I.list A;obtain⟨j,c,C,J,D,E⟩:=Cn B;obtain⟨w,l,g⟩:=r.get C;have hl:=r.length;have hn:=rH;have b:EP X a m Q w s:=⟨z,H,I,g,q⟩;by_cases h0:0<=i
 .have k:i.toNat=j:=by
   rw[wo h0 E]at c;exact xr c
  exact item_listR pl.isList h0 (by omega) (by rw[k];simpa using l) b hs
 .have k:(i+f.toArray.size).toNat=j:=by
   rw[vh (by omega) D]at c;rw[bn,<-hl];exact xr c
  exact qt pl.isList.typeIs slot_list_getitem.lookup (wpAny_getItem_list_neg pl.isList (by omega) (by rw[bn]<;>omega) (by omega) (by rw[k];simpa using l) ⟨rfl,b⟩) hs
theorem OU:kP X (xG X.K):=by intro a b d s A H x y v u Q I e f h hs;obtain⟨p,B,i,z,rfl,rfl,g,k,q⟩:=h;cases e;obtain⟨t,rfl⟩:=f;obtain⟨l,r,pl,C⟩:=I.tuple g;obtain⟨j,m,n,D,E,F⟩:=Cn k;obtain⟨w,o,c⟩:=r.get n;have hn:=rH;exact qt pl.typeIs slot_tuple_getitem.lookup (getItem_tuple pl (by omega) (by omega) (by rw[bn,<-r.length];exact m) (by simpa using o) ⟨rfl,⟨z,H,I,c,q⟩⟩) hs
theorem z7:kP X xH:=by
 intro a b d s o H x y v u Q I f g h hs;obtain⟨z,i,c,rfl,rfl,p,k,q⟩:=h;obtain⟨t,rfl⟩:=f;obtain⟨r,rfl⟩:=g;obtain⟨j,e,l,w,m,n⟩:=Cn k;have hl:z.cps.toList.length=z.length:=by simp[Str.length]
 rw[hl]at e m n;have hn:=rH;exact tail_any (xd s z t) slot_str_getitem.lookup (getItem_str (by rw[x4 (by omega),x4 (by omega),p8]) (by rw[e];simpa using l) ⟨.str ⟨#[c]⟩,H,I.tok _,⟨_,rfl⟩,q⟩) hs
def HY (K:Z5):R2:=λx y H Q=>xF K x y H Q\/xG K x y H Q\/xH x y H Q
theorem OV:kP X (HY X.K):=OT.or (OU.or z7)
theorem OW (a:List Value)(n j:Nat)(u:Value):Obj.mapSeq (·.setIfInBounds j u) {cls:=.type "list",data:=.seq a.toArray n}={cls:=.type "list",data:=.seq (a.set j u).toArray n}:=by simp[Obj.mapSeq]
theorem Inv.lst {b:List (Addr×Obj)}{σ:St}{H:Hp}{s:ao}{p:Addr}{c:List V}(I:Inv X b σ H s)(h:H p=Z9 (.lst c)):
  ∃a n,Vals c a/\s.heap.get? p=Z9 {cls:=.type "list",data:=.seq a.toArray n}/\c.length<=bj:=by
 obtain⟨z,a,n,r,e⟩:=I.hok p _ h;exact⟨a,n,r,e,z⟩
theorem Inv.lstUpd {a:List Value}(I:Inv X c d H s)(h:H p=Z9 (.lst i))
  (ho:s.heap.get? p=Z9 {cls:=.type "list",data:=.seq a.toArray n}) (hf:f {cls:=.type "list",data:=.seq a.toArray n}={cls:=.type "list",data:=.seq iF.toArray n'}) (r:Vals ys iF) (g:ys.length<=bj) t:
  Inv X c d (upd H p (.lst ys)) {s with heap:=s.heap.update p f,toks:=t}:=by
 have e:(s.heap.update p f).get? p=Z9 {cls:=.type "list",data:=.seq iF.toArray n'}:=by rw[gj f ho (by rw[hf]<;>rfl),hf]
 refine I.write (by rw[h];trivial) (.inl rfl) (λb u hb q=>(g8 _ _ (Ne.symm hb)).trans q) ⟨_,e⟩ ?_;exact⟨g,iF,n',r,e⟩
def HZ:V->V->V->Hp->(Hp->Prop)->Prop:=λo i v H Q=>∃p xs k j,o=.ref p/\i=.int k/\H p=Z9 (.lst xs)/\iT xs.length k=Z9 j/\Q (upd H p (.lst (xs.set j v)))
theorem set_list:B8 X HZ:=by
 rintro a s h H o i v ov z u Q I l m rv ⟨p,w,k,j,rfl,rfl,d,x,q⟩
 cases l;obtain⟨t,rfl⟩:=m;obtain⟨b,n,r,ho,y⟩:=I.lst d;obtain⟨c,A,e,f⟩:=HW x;have hl:=r.length;have hn:=rH;have g:Inv X a h (upd H p (.lst (w.set j v))) {s with heap:=s.heap.update p (Obj.mapSeq (·.setIfInBounds j u))}:=I.lstUpd d ho (OW b n j u) (r.set rv j) (by rw[cu];exact y) s.toks;by_cases h0:0<=k
 .have hk:k.toNat=j:=by
   rw[wo h0 f]at c;exact xr c
  exact W.ki_setAt ho h0 (by omega) (by rw[bn,<-hl];exact f) (hk▸⟨_,g,q⟩)
 .have hk:(k+b.toArray.size).toNat=j:=by
   rw[vh (by omega) e]at c;rw[bn,<-hl];exact xr c
  exact W.ki_setBack ho (by omega) (by rw[bn,<-hl];exact e) (by omega) (hk▸⟨_,g,q⟩)
theorem OX (a b:Option Int)(n:Nat):(md a b Z8 n).1=((HT.bA n 0 a:Nat):Int)/\(md a b Z8 n).2.1=((HT.bA n n b:Nat):Int)/\(md a b Z8 n).2.2=1:=by
 refine⟨?_,?_,rfl⟩
 .cases a with
  |none=>simp[md,HT.bA]
  |some i=>
   simp only[md,HT.bA,Option.getD_none,show 1>0 by decide,if_true];by_cases h:i<0
   .simp only[h,if_true]<;>omega
   .simp only[h,if_false]<;>omega
 .cases b with
  |none=>simp[md,HT.bA]
  |some i=>
   simp only[md,HT.bA,Option.getD_none,show 1>0 by decide,if_true];by_cases h:i<0
   .simp only[h,if_true]<;>omega
   .simp only[h,if_false]<;>omega
theorem OY (a:List Value)(b c:Option Int):slicePick a.toArray b c Z8=((a.drop (HT.bA a.length 0 b)).take (HT.bA a.length a.length c-HT.bA a.length 0 b)).toArray:=by obtain⟨d,e,f⟩:=OX b c a.toArray.size;unfold slicePick;rw[d,e,f];simp only[sv,pick_run,bn]<;>rfl
def xI (K:Z5):V->Option Int->Option Int->Hp->VK->Prop:=λx lo hi H Q=>∃a xs,x=.ref a/\SqL K H a xs/\∀p,H p=Z8->Q (.ref p) (upd H p (.lst (nT xs lo hi)))
theorem OZ:mP X (xI X.K):=by
 rintro f s k H x v l m e g sl Q I h hs pl pu ⟨a,c,rfl,hx,q⟩
 cases h;obtain⟨i,r,ht,j⟩:=I.list hx;have d:=r.length;refine⟨"list",_,slot_list_getitem.lookup,ht.isList.typeIs,?_⟩;refine wpAny_getItem_list_slice ht.isList hs pl pu .none (by simp) ?_ (by rw[bn]<;>omega);rw[OY,<-d];refine⟨.ref s.heap.objs.size,_,I.laid (λb n q=>ac _ q) (ar _) ?_,rfl,q _ (I.hok.fresh (ar _))⟩;exact⟨bo (HU c e g) j,_,0,(r.drop (HT.bA c.length 0 e)).take (HT.bA c.length c.length g-HT.bA c.length 0 e),a7 _ rfl⟩
theorem O1:CallR X (.builtin "len") (λf H Q=>∃p b,f=[.ref p]/\(SqL X.K H p b\/cA X.K H p b)/\Q (.int b.length) H):=by
 rintro g s i H f j Q I r ⟨p,b,rfl,c,q⟩
 obtain⟨u,rfl,rfl⟩:=vals1 r;have hn:=rH;rcases c with c|c
 .obtain⟨d,e,pl,h⟩:=I.list c;have a:=e.length;exact Calls.call_len_list pl.isList (by simp<;>omega) ⟨.int b.length,H,I.tok _,⟨s.toks+1,by rw[bn,a]⟩,q⟩
 .obtain⟨d,e,pl,h⟩:=I.tuple c;have a:=e.length;exact len_tuple pl (by simp<;>omega) ⟨.int b.length,H,I.tok _,⟨s.toks+1,by rw[bn,a]⟩,q⟩
theorem O2:CallR X (.builtin "len") (λa H Q=>∃z,a=[.str z]/\z.length<=bj/\Q (.int z.length) H):=by
 rintro b s c H a d Q I r ⟨z,rfl,e,q⟩
 obtain⟨u,rfl,t,rfl⟩:=vals1 r;have hn:=rH;exact len_str (by omega) ⟨.int z.length,H,I.tok _,⟨_,rfl⟩,q⟩
theorem CallR.or (h:CallR X f r)(g:CallR X f i):CallR X f (λb H Q=>r b H Q\/i b H Q):=by
 intro a s c H b d Q I e q;rcases q with q|q
 .exact h a s c H b d Q I e q
 .exact g a s c H b d Q I e q
theorem O3:CallR X (.type "list") (λv H Q=>∃p d,v=[.ref p]/\(SqL X.K H p d\/cA X.K H p d)/\∀l,H l=Z8->Q (.ref l) (upd H l (.lst d))):=by
 rintro h s y H v z Q I r ⟨p,d,rfl,i,q⟩
 obtain⟨u,rfl,rfl⟩:=vals1 r
 have j:∀a,Vals d a->d.length<=bj->∀c f,(∀b x,s.heap.get? b=Z9 x->c.get? b=Z9 x)->
   c.get? s.heap.objs.size=Z9 {cls:=.type "list",dict:=Z8,data:=.seq a.toArray f,slots:=#[]}->EP X h y Q (.ref s.heap.objs.size) {s with heap:=c}:=λa g k c f kp e=>
  ⟨.ref s.heap.objs.size,_,I.laid kp (ar _) (show z16 X.prog X.w _ c _ (.lst d)from⟨k,a,f,g,e⟩),rfl,q _ (I.hok.fresh (ar _))⟩
 rcases i with i|i
 .obtain⟨a,g,pl,k⟩:=I.list i;have m:=g.length;obtain⟨o,ho,t,n,hd⟩:=pl.isList;exact call_list_seq p (.inl rfl) ho t hd (λc f kp e=>j a g k c f kp e) (by simp<;>omega)
 .obtain⟨a,g,pl,k⟩:=I.tuple i;have m:=g.length;obtain⟨o,ho,t,n,hd⟩:=pl;exact call_list_seq p (.inr rfl) ho t hd (λc f kp e=>j a g k c f kp e) (by simp<;>omega)
theorem O4:CallR X (.type "tuple") (λj H Q=>∃p d,j=[.ref p]/\((SqL X.K H p d/\∀l,H l=Z8->Q (.ref l) (upd H l (.tup d)))\/(cA X.K H p d/\Q (.ref p) H))):=by
 rintro a s k H j w Q I r ⟨p,d,rfl,h⟩
 obtain⟨u,rfl,rfl⟩:=vals1 r;rcases h with⟨g,q⟩|⟨g,q⟩
 .obtain⟨c,i,pl,m⟩:=I.list g;have n:=i.length;refine call_tuple_list pl.isList (λf kp=>?_) (by simp<;>omega);have t:Inv X a k H {s with heap:=f}:=I.kept kp;have v:Inv X a k (upd H f.objs.size (.tup d)) {s with heap:=f.push {cls:=.type "tuple",data:=.seq c.toArray}}:=t.laid (λb o e=>ac _ e) (ar _) (⟨m,c,i,TupN.new _ _⟩);exact⟨.ref f.objs.size,_,v,rfl,q _ (t.hok.fresh (ar _))⟩
 .obtain⟨c,i,pl,m⟩:=I.tuple g;exact call_tuple_same pl ⟨.ref p,H,I,rfl,q⟩
def tyV (K:Z5)(T:String)(x:V)(H:Hp):Prop:=match x with
 |.str _=>T="str"
 |.int _=>T="int"
 |.ref p=>(T="list"/\∃xs,SqL K H p xs)\/(T="tuple"/\∃o,K.lookup p=Z9 o/\o.cls=.type "tuple"/\o.dict=Z8)\/(T="dict"/\∃kvs,H p=Z9 (.dK kvs))
 |_=>False
theorem zus (I:Inv X pins σ H s)(r:RelV x v)(ty:tyV X.K T x H):
  s.TypeIs v T/\∀a,v=.ref a->∃ob,s.heap.get? a=Z9 ob/\ob.dict=none:=by
 cases x with
 |str z=>obtain⟨t,rfl⟩:=r;cases ty;exact⟨xd s z t,λ_ e=>nomatch e⟩
 |int i=>obtain⟨t,rfl⟩:=r;cases ty;exact⟨xf s i t,λ_ e=>nomatch e⟩
 |ref p=>
  cases r;rcases ty with⟨rfl,xs,hq⟩|⟨rfl,o,hk,hc,hd⟩|⟨rfl,kvs,hk⟩
  .obtain⟨its,_,pl,_⟩:=I.list hq;refine⟨pl.isList.typeIs,λa e=>?_⟩;cases e;obtain⟨o,n,e,c,hd,_⟩:=pl;exact⟨o,e,hd⟩
  .refine⟨⟨o,I.eN p o hk,hc⟩,λa e=>?_⟩;cases e;exact⟨o,I.eN _ o hk,hd⟩
  .obtain⟨_,_,_,_,o,_,_,e,ex,_⟩:=I.hok p _ hk;refine⟨⟨o,e,ex.1⟩,λa e2=>?_⟩;cases e2;exact⟨o,e,ex.2.1⟩
 |_=>exact False.elim ty
def O5 (K:Z5)(T:String)(r:V->List V->Hp->VK->Prop)(to:TE)(t:TA):TE:=λσ H Q=>to σ H λx H1=>tyV K T x H1/\t σ H1 λxs H2=>r x xs H2 Q
variable {o e:Expr}{es:List Expr}{to:TE}{t:TA}{name:Str}{apos cpos:Pos}{T id:String}{r:V->List V->Hp->VK->Prop}
theorem zp6 (m:PlainAttrs T)(slot:Slot T name id)(g:wf (.builtin id)=pure (.type "method_descriptor"))(hm:MtR X id r)(ho:PE X o to)(ha:PA X (e::es) t)
  (c:uh o name X.env (eval o X.env)=eval o X.env:=by rfl)
  (f:((oh cpos (fh (e::es) X.env)).all (λx=> !x.1)&&(backToKw cpos (wm [] X.env)).all (λx=>x.1.isSome)
   &&decide ((e::es).length+([]:List vc).length+(if([]:List vc).isEmpty then 0 else 1)<30))=true:=by rfl)
  (d:(apos.endLine==cpos.line)=true:=by rfl) (hs:fh (e::es) X.env=(Z6,eval e X.env)::fh es X.env:=by rfl) (b:(oh cpos (fh es X.env)).any (·.1)=false:=by rfl):
  PE X (.Call (.Attribute o name apos) (e::es) [] cpos) (O5 X.K T r to t):=by
 intro a s i H Q I h;refine wpAny_Call_method_late c f d rfl (aN (ho a s i H _ I h) λv n ⟨x,p,j,k,ty,q⟩=>?_);obtain⟨u,w⟩:=zus j k ty;refine⟨T,id,m,slot,g,u,w,?_⟩;have l:=ha cpos a n i p _ j q;rw[hs]at l ⊢;refine Calls.callWith_builtin (by show(Z6||(oh cpos (fh es X.env)).any (·.1))=Z6;rw[b]<;>rfl) (sx ?_);exact aN l λy z ⟨A,B,C,D,E⟩=>hm a z i B x A v y Q C k D E
end
def Ia (X:Cx)(id:String)(r:V->List V->Hp->VK->Prop):Prop:=∀(pins:List (Addr×Obj)) (s:ao) (σ:St) (H:Hp) (x:V) (xs:List V) (v:Value) (us:List Value) (Q:VK),Inv X pins σ H s->RelV x v->Vals xs us->r x xs H Q->wpAny (model X.prog X.w) X.A (call (.builtin id) (v::us)) (EP X pins σ Q) X.xe s
theorem Vals.one (h:Vals [x] a):∃u,a=[u]/\RelV x u:=by
 cases h with
 |cons r h=>cases h;exact⟨_,rfl,r⟩
theorem Vals.two (h:Vals [x,y] a):∃u v,a=[u,v]/\RelV x u/\RelV y v:=by
 cases h with
 |cons r h=>cases h with
  |cons q h=>cases h;exact⟨_,_,rfl,r,q⟩
theorem Vals.zero:∀{a:List Value},Vals [] a->a=[]
 |_,.nil=>rfl
theorem Vals.rep (h:Vals a b):∀k,Vals (bp k a).flatten (bp k b).flatten
 |0=>.nil
 |k+1=>by exact Vals.append h (Vals.rep h k)
theorem foldl_rep (a:List Value):∀k b,
  xg (λc d=>c++d) b.toArray (bp k a.toArray)=(b++(bp k a).flatten).toArray
 |0,b=>by simp
 |k+1,b=>by
  have e:b.toArray++a.toArray=(b++a).toArray:=by simp
  have f:(b++a)++(bp k a).flatten=b++(bp (k+1) a).flatten:=by rw[i9,mx,du]
  rw[<-f,<-foldl_rep a k (b++a),<-e,i9,kr]
section
variable {X:Cx}{pins:List (Addr×Obj)}{σ:St}{H:Hp}{s:ao}{l b:Addr}{xs ys zs:List V}
theorem Inv.lset {its:List Value}(I:Inv X pins σ H s)(hH:H l=Z9 (.lst xs))
  (e:s.heap.get? l=Z9 {cls:=.type "list",data:=.seq its.toArray n}) (hf:f its.toArray=iF.toArray) (hv:Vals ys iF) (hz:ys.length<=bj):
  Inv X pins σ (upd H l (.lst ys)) {s with heap:=s.heap.update l (Obj.mapSeq f),toks:=t'}:=by
 have q:=PySem.IsL.update e f;rw[hf]at q;refine I.write (hH▸trivial) (.inl rfl) (λb' u hb hu=>(g8 s.heap (Obj.mapSeq f) (Ne.symm hb)).trans hu) ⟨_,q⟩ ?_;exact⟨hz,iF,_,hv,q⟩
theorem Inv.lnew (I:Inv X pins σ H s)(b:Vals ys a)(c:ys.length<=bj):
  Inv X pins σ (upd H s.heap.objs.size (.lst ys)) {s with heap:=s.heap.push {cls:=.type "list",data:=.seq a.toArray},toks:=t'}:=
 I.laid (λ_ _ q=>ac _ q) (ar _) ⟨c,a,0,b,a7 _ rfl⟩
theorem Inv.fresh (I:Inv X pins σ H s):H s.heap.objs.size=none:=I.hok.fresh (ar _)
theorem Inv.lG (I:Inv X pins σ H s)(b:H l=Z9 (.lst xs)):xs.length<=bj/\∃a n,Vals xs a/\xs.length=a.length/\s.heap.get? l=Z9 {cls:=.type "list",data:=.seq a.toArray n}:=by obtain⟨z,a,n,r,e⟩:=I.hok l _ b;exact⟨z,a,n,r,r.length,e⟩
theorem Ib (h:n<=bj):j0 n=false:=x4 (by omega)
end
section
variable {X:Cx}
def O6:V->List V->Hp->VK->Prop:=λx vs H Q=>∃l xs y,x=.ref l/\vs=[y]/\H l=Z9 (.lst xs)/\xs.length<bj/\Q .bK (upd H l (.lst (xs++[y])))
theorem Ic:Ia X "list.append" O6:=by
 rintro b s g H x h v i Q I d rv ⟨l,j,y,rfl,rfl,c,k,q⟩
 cases d;obtain⟨u,rfl,f⟩:=rv.one;obtain⟨z,a,n,r,hl,e⟩:=I.lG c;refine qw F.slot_list_append ⟨_,e,rfl⟩ F.entry_list_append (F.args_list_append_2 _ _) (PySem.list_append l a.toArray n u (by grind)) ⟨e,?_⟩;refine⟨.bK,_,I.lset c e (by simp) (r.append (.cons f .nil)) ?_,rfl,q⟩;rw[am,nk];omega
def xJ:R2:=λx y H Q=>∃l b xs zs,x=.ref l/\y=.ref b/\H l=Z9 (.lst xs)/\H b=Z9 (.lst zs)/\xs.length+zs.length<=bj/\∀p,H p=Z8->Q (.ref p) (upd H p (.lst (xs++zs)))
theorem O7:OpR X (iz .Add) xJ:=by
 rintro d s p H x y v u Q I f g ⟨l,b,t,w,rfl,rfl,h,i,A,q⟩
 cases f;cases g;obtain⟨z,c,n,r,hl,e⟩:=I.lG h;obtain⟨B,a,C,j,k,m⟩:=I.lG i;refine PySem.P.add_list e m ?_ (by grind);have o:c.toArray++a.toArray=(c++a).toArray:=by simp
 rw[o];exact⟨.ref _,_,I.lnew (r.append j) (by grind),rfl,q _ I.fresh⟩
def Cp:R2:=λx y H Q=>∃l k xs,x=.ref l/\y=.int k/\H l=Z9 (.lst xs)/\ -(2 ^ 63)<=k/\k<2 ^ 63/\xs.length*k.toNat<=bj/\∀p,H p=Z8->Q (.ref p) (upd H p (.lst (bp k.toNat xs).flatten))
theorem len_rep {b:Type}(a:List b)(k:Nat):(bp k a).flatten.length=k*a.length:=by simp
theorem O8:OpR X (iz .Mult) Cp:=by
 rintro o s J H x y v u Q I w A ⟨l,k,K,rfl,rfl,B,C,D,p,q⟩
 cases w;obtain⟨t,rfl⟩:=A;obtain⟨z,b,n,r,hl,e⟩:=I.lG B;have d:b.toArray.size*k.toNat<=bj:=by rw[bn,<-hl];exact p
 have f:¬b.toArray.size*k.toNat>(2 ^ 63-1)/8:=by
  have:bj<=(2 ^ 63-1)/8:=by decide
  omega
 have g:¬(!Builtin.List.listFitsIndex k)=true:=by rw[fitsIndex_both C D];exact c7
 have c:¬j0 (b.toArray.size*k.toNat)=true:=by rw[Ib d];exact c7
 have h:xg (λi j=>i++j) #[] (bp (if b.toArray.isEmpty=Z7 then 0 else k.toNat) b.toArray)=(bp k.toNat b).flatten.toArray:=by
  have E:∀m,xg (λi j=>i++j) #[] (bp m b.toArray)=(bp m b).flatten.toArray:=λm=>by have:=foldl_rep b m [];exact this
  rw[E];cases b with
  |nil=>simp
  |cons a L=>rw[xq (by simp)]
 refine wpAny_binaryOp_repeat_ref (by decide) ⟨_,e,rfl⟩ (λG=>xf G k t) noFill_list_mul F.fills_int_mul F.slot_int_rmul repeat_list F.slot_int_index.lookup
  (qw F.slot_int_rmul (xf s k t) F.entry_int_rmul (F.args_int_rmul_2 _ _) (int___rmul___int_list k t l b.toArray n)
   ⟨e,rfl,⟨_,e,rfl⟩,qw F.slot_list_mul ⟨_,e,rfl⟩ F.entry_list_mul (F.args_list_mul_2 _ _) (AutoListH.list___mul___list_int_3 l b.toArray n k t g f c) ⟨e,?_⟩⟩)
 rw[h];exact⟨.ref _,_,I.lnew (r.rep k.toNat) (by rw[len_rep,Nat.mul_comm];exact p),rfl,q _ I.fresh⟩
end
end L2
namespace Att
open PySem PySem.W PySem.Calls PyProof.Rows
theorem O9:∀ns c,WellAll P h c (ns.map WData.int)->t5 c ns:=by
 intro ns
 induction ns with
 |nil=>intro c w;cases w;exact .nil
 |cons n ns d=>
  intro c w;cases w with
  |cons a b=>cases a;exact .cons _ _ (d _ b)
theorem zd5 {l:OpenLaw}(hn:l.most=Z9 n)
  (b:l.row.toRowW.claim.pre args=Z7) (i:WellAll P h c args):
  ∃a k ns,c=[ZV a]/\args=[WData.list (ns.map WData.int)]/\h.get? a=Z9 {cls:=.type "list",data:=.seq k.toArray}/\t5 k ns/\ns.length<=n:=by
 have m:l.pre.holds [] {args:=args}=true:=(pre_splitW b).2;obtain⟨d,r,rfl,o,p⟩:=hasAllW_cons ((pre_splitW b).1);obtain rfl:=hasAllW_nil p;obtain⟨v,rfl,s⟩:=hasW_list o;obtain⟨ns,rfl⟩:=items_int s
 have e:ns.length<=n:=by
  have g:(WTm.not (.lt (.lit (.int n)) (.len (.arg 0)))).holds [] {args:=[.list (ns.map .int)]}=true:=by have g:=(holds_andW m).1;rw[hn]at g;exact g
  have j:=condW_of g (w_not (w_lt w_lit (w_len_list (w_arg rfl))));refine qh λq=>?_
  first
   |(rw[xz q']at j;exact absurd j dc)
   |(simp at j;omega)
 cases i with
 |cons t u=>
  cases u;cases t with
  |list ho f=>exact⟨_,_,ns,rfl,rfl,ho,O9 ns _ f,e⟩
theorem Pa (l:OpenLaw)(args:List WData):l.row.toRowW.claim.post args (.bool Z7) args=true:=
 postW_of
  (show WShape.has [] (.bool Z7) .bool=Z7 by first|rfl|decide|simp[WShape.has,WShape.arms,WShape.armsAll])
  (show(WTm.eq .res (.lit (.bool Z7))).value [] {args:=args,res:=Z9 (.bool Z7),after:=args}=Z9 (.bool (Z7==Z7))from w_eq_bool (w_res rfl) w_lit) rfl
theorem attach_call {l:OpenLaw}
  (hn:l.most=Z9 n) (p:d.params.defaults=[])
  (call:∀w s₀ b mg s h o t cd c a g ns,
   Ground q loose [] B w s₀ mg s b.heap->C w b.heap->
   b.heap.get? h=Z9 o->o.data=.func (docDef d.name d.params d.body d.scope t cd c)->b.heap.CodeRec cd d.name->mg d.name=Z9 (.ref h)->
   b.heap.get? a=Z9 {cls:=.type "list",data:=.seq g.toArray}->t5 g ns->ns.length<=n->b.gens=#[]->
   kz (model l.prog w) vo (.call (.ref h) ⟨[.ref a],[]⟩) (λr m=>r=.ok (.ret (.bool Z7))/\OldK b.heap m.heap/\m.os=b.os/\o5 m.gens) b):
  WalkO q loose B C l.row.toRowW d [] (λf g=>PySem.call f g):=by
 intro w s₀ b mg s G Y h o t cd c D kV ho hd u y v E args z M i A F x H;obtain rfl:D=.none:=Dflts.none y p;obtain rfl:kV=.none:=Dflts.noKw y;obtain⟨a,g,ns,rfl,rfl,j,e,k⟩:=zd5 hn i x;refine enter_call (ja (call w s₀ b mg s h o t cd c a g ns G Y ho (fd_plain hd) u v j e k E) λr m I=>?_);obtain⟨rfl,J,K,L⟩:=I;exact⟨.inl ⟨.bool Z7,.bool Z7,[],rfl,λ_=>rfl,.bool Z7,Pa l _,λ_=>⟨List.Pairwise.nil,λ_ hm=>(nomatch hm)⟩⟩,J,K,L⟩
end Att
namespace L2
open PySem PySem.Spec PyProof.Rows
theorem Ie:∀{a:List Value} {ns:List Int},t5 a ns->Vals (ns.map V.int) a
 |_,_,.nil=>.nil
 |_,_,.cons n t h=>.cons ⟨t,rfl⟩ (Ie h)
def Only (H:Hp):Prop:=∀b,H b=Z8\/∃o xs,H b=Z9 (.eU o (.lst xs))
theorem zhw {K:Z5}
  (I:K.In c.heap) (l:c.heap.Ns ci mg) (hb:c.heap.Ns wz J) (B:∀x:Str,x≠"__name__"->J x=c9 x) (p:c.heap.NoLimit) (Q:c.gens=#[])
  (ha:c.heap.get? a=Z9 {cls:=.type "list",data:=.seq vs.toArray}) (L:t5 vs ns) (hl:ns.length<=bj) (hr:Room k vo)
  (F:∀base,K.In base->base.Ns ci mg->FnOk P w K mg base CX k fa fd [x] sp) (j:∀s u,tz s fd ⟨[u],[]⟩ [(x,u)])
  (C:∀H,Only H->SqL K H a (ns.map V.int)->sp [.ref a] H (λv _=>v=.bl Z7) λ_ _ _=>False)
  (D:∀H e f,CX [] H c (λ_ _ _=>False) e f->False):
  kz (model P w) vo (.call (.ref fa) ⟨[.ref a],[]⟩) (λr f=>r=.ok (.ret (.bool Z7))/\OldK c.heap f.heap/\f.os=c.os/\o5 f.gens) c:=by
 have rv:=Ie L
 have i:∀H,Only H->SqL K H a (ns.map V.int)->HOk P w H c.heap->(∀b,H b≠Z8->b=a)->(H a≠Z8->K.lookup a=Z8)->
   kz (model P w) vo (.call (.ref fa) ⟨[.ref a],[]⟩) (λr f=>r=.ok (.ret (.bool Z7))/\OldK c.heap f.heap/\f.os=c.os/\o5 f.gens) c:=by
  intro H M R hok N S;have z8:∀{b:Addr} {o:Obj},c.heap.get? b=Z9 o->H b=Z8->(jG c.heap H).get? b=Z9 o:=λe n=>NB e n
  have E:∀{b:Addr} {o:Obj} {es:Array DictEntry} {ep:Nat},c.heap.get? b=Z9 o->o.data=.dict es ep->H b=none:=λ{b o es ep} e d=>by
   cases q:H b with
   |none=>rfl
   |some u=>have G:=N b (by rw[q];simp);subst G;rw[ha]at e;cases e;cases d
  have g:∀{b:Addr} {m:Str->Option Value},c.heap.Ns b m->(jG c.heap H).Ns b m:=λ{b m} ⟨o,es,ep,e,d,r⟩=>⟨o,es,ep,z8 e (E e d),d,r⟩
  have t:=λb o e=>z8 (I b o e) (by
   cases q:H b with
   |none=>rfl
   |some u=>have G:=N b (by rw[q];simp);subst G;rw[S (by rw[q];simp)]at e;cases e)
  refine ja ((F _ t (g l)).run vo [] c H ⟨[.ref a],[]⟩ [.ref a] [.ref a] _ _ hr ⟨rfl,⟨t,g l,⟨J,g hb,B⟩,let⟨mc,h1,h2⟩:=p;⟨mc,g h1,h2⟩⟩,λb o e=>NC e,vp (NA _ _),trivial,λb hb=>absurd (show b∈([]:List Addr)from hb) (by simp),hok,.of_eq Q⟩ (j c (.ref a)) (.cons rfl .nil) (C H M R)) λr f h=>?_;cases r with
  |error e=>exact(D H e f h).elim
  |ok T=>
   cases T with
   |next=>exact False.elim h
   |brk=>exact False.elim h
   |cont=>exact False.elim h
   |ret u=>
    obtain⟨v,H',os,bare,un,y,r',rfl⟩:=h;obtain rfl:u=Value.bool true:=r';refine⟨rfl,OldK.of_keep λb o e=>?_,os,bare⟩;cases q:H b with
    |none=>exact un.keep b o e q (by intro z;exact absurd (show b∈([]:List Addr)from z) (by simp)) (by simp)
    |some u=>
     rcases M b with z|⟨ob,xs,z⟩
     .rw[q]at z;cases z
     .have z2:=un.bZ b ob _ z;obtain⟨O,_⟩:=hok b _ z;obtain⟨e2,_⟩:=y b _ z2;rw[e]at O;cases O;exact e2
 cases hk:K.lookup a with
 |some o=>have e:=I a o hk;rw[ha]at e;cases e;refine i (λ_=>Z8) (λ_=>.inl rfl) (.inr ⟨_,vs.toArray,_,hk,rfl,rfl,rfl,by rw[bn,L.length];exact hl,by simpa using rv⟩) (λb u z=>by have A:Z8=Z9 u:=z;cases A) (λb z=>absurd rfl z) λz=>absurd rfl z
 |none=>
  refine i (λb=>if b=a then Z9 (.eU {cls:=.type "list",data:=.seq vs.toArray} (.lst (ns.map V.int)))else Z8) (λb=>?_) (.inl (.inr ⟨{cls:=.type "list",data:=.seq vs.toArray},xp rfl⟩)) (λb u z=>?_) (λb z=>?_) λ_=>hk
  .by_cases hb:b=a
   .exact .inr ⟨_,_,xp hb⟩
   .exact .inl (xq hb)
  .by_cases hb:b=a
   .have A:=(xp hb).symm.trans z;cases A;subst hb;exact⟨ha,by rw[af];exact hl,vs,_,rv,ha⟩
   .have A:=(xq hb).symm.trans z;cases A
  .by_cases hb:b=a
   .exact hb
   .exact absurd (xq hb) z
theorem walk_of {l:W.OpenLaw}{K:jo->Z5}{C:World->CXT}{D:World->Sp}
  (hn:l.most=Z9 n) (r:n<=bj) (t:d.params.defaults=[]) (hr:Room k vo)
  (J:∀w h,L w h->(K w.params).In h)
  (F:∀w mg p h,(K w.params).In h->h.Ns ci mg->mg d.name=Z9 (.ref p)->∃fd,(∀s u,tz s fd ⟨[u],[]⟩ [(x,u)])/\∀base,(K w.params).In base->base.Ns ci mg->FnOk l.prog w (K w.params) mg base (C w) k p fd [x] (D w))
  (y:∀w H a (ns:List Int),ns.length<=n->Only H->SqL (K w.params) H a (ns.map V.int)->D w [.ref a] H (λv _=>v=.bl Z7) λ_ _ _=>False)
  (z:∀w H s e A,C w [] H s (λ_ _ _=>False) e A->False):
  W.WalkO q loose S L l.row.toRowW d [] (λf E=>PySem.call f E):=by
 refine Att.attach_call hn t λw s₀ j mg U p o X cd M a E ns G Y ho hd N B m i c O=>?_;have I:=J w _ Y;obtain⟨fd,hb,P⟩:=F w mg p _ I G.T.g B;exact zhw I G.T.g G.T.b G.T.builtins G.T.nolimit O m i (bo c r) hr P hb (λH Q R=>y w H a ns c Q R) λH e A=>z w H j e A
def lH (s:Stmt):Arguments:=match s with
 |.FunctionDef _ a _ _ _ _ _ _ _ _=>a
 |_=>{posonlyargs:=[],args:=[],vararg:=Z8,kwonlyargs:=[],kw_defaults:=[],kwarg:=Z8,defaults:=[]}
def z0o (s:Stmt):List Stmt:=match s with
 |.FunctionDef _ _ b _ _ _ _ _ _ _=>b
 |_=>[]
def z09 (s:Stmt):Scope:=match s with
 |.FunctionDef _ _ _ _ _ _ sc _ _ _=>sc
 |_=>{kind:=.function,names:=[],isGenerator:=Z6,isCoroutine:=Z6}
abbrev iU:CXT:=λ_ _ _ _ _ _=>False
abbrev E0:XK:=λ_ _ _=>False
theorem Pb:zdb iU X E0:=λ_ _ _ _ _ _ _ h=>h.elim
structure Fun (K:Z5)(x qual:Str)(st:Stmt)(f:Addr)(fd:ms):Prop where
 ex:∃(oc:Value) (od:Option Addr) (kV doc pm:Value) (an:Option Addr) (iV ct:Value) (Cq:Array (Option Value)),fd=W.fnOf x qual (lH st) (z0o st) (z09 st) .none kV doc pm an iV ct/\K.lookup f=Z9 ⟨oc,od,.func fd,Cq⟩/\W.codeIn K iV qual=Z7
 kp:W.keepIn K (.ref f)=Z7
section
variable {P:b9}{w:World}{K:Z5}{mg:Str->Option Value}{base:Heap}
theorem Fun.ok {st:Stmt}(F:Fun K x b st f fd)(S:FnScope N ps (z09 st))(len:∀c H Q E,i c H Q E->c.length=ps.length)
  (d:∀a A outer s H c Q E,Room k (A.deeper (sr b (z09 st) s.heap.objs.size f a))->i c H Q E->∃t,PSs (eW iU P w K mg base N b (z09 st) f a A outer s H E).pX (z0o st) t/\t {nx:=λ_ j=>Q .bK j,rt:=Q} (start N c) H):FnOk P w K mg base iU (k+1) f fd ps i:=by
 obtain⟨oc,od,kV,l,o,an,a,ct,m,rfl,n,e⟩:=F.ex;refine zlv n e S len λA outer s H c Q E hr g=>?_;obtain⟨t,h,q⟩:=d a A outer s H c Q E hr g;exact⟨t,h.pX,q⟩
theorem Fun.binds {st:Stmt}(F:Fun K x c st f fd)
  (h:∀kV a d an b ct e,e.length=ps.length->xb (W.fnOf x c (lH st) (z0o st) (z09 st) .none kV a d an b ct) ⟨e,[]⟩=pure (ps.zip e)):Binds K fd ps []:=by
 obtain⟨oc,od,kV,a,d,an,b,ct,g,rfl,j,i⟩:=F.ex;exact .all (h kV a d an b ct)
theorem Cr {st:Stmt}{kV:Value}(l:K.lookup f=Z9 ⟨oc,od,.func (W.fnOf x a (lH st) (z0o st) (z09 st) .none kV d g an b ct),e⟩) (c:W.codeIn K b a=Z7) (k:W.keepIn K (.ref f)=Z7):Fun K x a st f (W.fnOf x a (lH st) (z0o st) (z09 st) .none kV d g an b ct):=⟨⟨oc,od,kV,d,g,an,b,ct,e,rfl,l,c⟩,k⟩
end
theorem gH {B:Prop}(h:B):if Z6=Z7 then A else B:=h
theorem gI {B:Prop}(h:A):if Z7=Z7 then A else B:=h
def Same (H H':Hp):Prop:=∀b o,H b=Z9 o->H' b=Z9 o
theorem Same.refl (H:Hp):Same H H:=λ_ _ h=>h
theorem Same.trans (a:Same H d)(b:Same d e):Same H e:=λc o h=>b c o (a c o h)
section
variable {X:Cx}
theorem Pc:CallR X (.builtin "len") (λc H Q=>∃a b,c=[V.ref a]/\H a=Z9 (.dK b)/\Q (.int b.length) H):=by
 rintro d s f H c g Q I r ⟨a,b,rfl,ha,q⟩
 obtain⟨u,rfl,rfl⟩:=vals1 r;exact OD I (.inl ha) λt h e=>⟨.int b.length,H,e,⟨t,rfl⟩,q⟩
end
end L2
set_option maxHeartbeats 5000000
namespace L2
open PySem PySem.Spec PyProof.Rows
def eK (env:Env):List (Str×ji)->List (Str×Addr)->List (Str×Addr)
 | [],cs=>cs
 |(n,k)::r,cs=>eK env r (if(k==.free)=Z7 then(n,(env.cells.lookup n).getD 0)::cs else cs)
theorem Ig:∀l (a:List (Str×Addr)),(∃c,a.lookup x=Z9 c)->∃c,(eK env l a).lookup x=Z9 c
 | [],a,h=>h
 |(n,k)::r,a,h=>by
  refine Ig r _ ?_;split
  .by_cases e:(x==n)=Z7
   .exact⟨_,by rw[dn,e]⟩
   .obtain⟨c,b⟩:=h;exact⟨c,by rw[dn,vq.mpr e];exact b⟩
  .exact h
theorem Cs:∀(l:List (Str×ji)) cs,l.lookup x=Z9 .free->∃c,(eK env l cs).lookup x=Z9 c
 | [],cs,h=>by simp at h
 |(n,k)::r,cs,h=>by
  rw[dn]at h;cases e:(x==n)with
  |true=>rw[e]at h;have a:=xr h;subst a;exact Ig r _ ⟨_,by rw[xp (by rfl),dn,e]⟩
  |false=>rw[e]at h;exact Cs r _ h
theorem zc3:∀l cs,(∀y∈l,y.2=.free->∃c,env.cells.lookup y.1=Z9 c)->(∀x c,cs.lookup x=Z9 c->env.cells.lookup x=Z9 c)->
  ∀x c,(eK env l cs).lookup x=Z9 c->env.cells.lookup x=Z9 c
 | [],cs,_,h=>h
 |(n,k)::r,cs,i,h=>by
  refine zc3 r _ (λy j=>i y (av _ j)) λx c a=>?_;by_cases f:(k==NameKind.free)=Z7
  .rw[xp f,dn]at a;cases e:(x==n)with
   |true=>
    rw[e]at a;have g:x=n:=by simpa using e
    obtain⟨d,hd⟩:=i (n,k) ah (by simpa using f);have b:=hd;rw[b]at a;rw[g,b];exact a
   |false=>rw[e]at a;exact h x c a
  .rw[xq f]at a;exact h x c a
theorem Ih (h:∀y∈scope.names,y.2=.free->∃c,env.cells.lookup y.1=Z9 c):closureFor scope env=pure (eK env scope.names []):=by
 have go:∀l cs,(∀y∈l,y.2=.free->∃c,env.cells.lookup y.1=Z9 c)->
   (forIn l cs λx r=>if(x.2==NameKind.free)=Z7 then(do let a <-cellOf env x.1;pure (ForInStep.yield ((x.1,a)::r)):Sem _)else pure (ForInStep.yield r))=(pure (eK env l cs):Sem _):=by
  intro l
  induction l with
  |nil=>intro cs _;rfl
  |cons y r i=>
   intro cs f;obtain⟨n,k⟩:=y;rw[List.forIn_cons];unfold eK;by_cases b:(k==NameKind.free)=Z7
   .obtain⟨c,hc⟩:=f (n,k) ah (by simpa using b);have d:=hc;have e:cellOf env n=pure c:=by unfold cellOf;rw[d]
    rw[xp b,xp b];rw[e,d];exact i ((n,c)::cs) λy g=>f y (av _ g)
   .rw[xq b,xq b];exact i cs λy g=>f y (av _ g)
 have:=go scope.names [] h
 first
  |exact this
  |(show(forIn scope.names [] _>>=λr=>pure r)=_;rw[show(forIn scope.names ([]:List (Str×Addr)) _:Sem _)=_ from this];rfl)
theorem zbt (hc:∀y∈scope.names,y.2≠.cell):
  (relabel scope env).names.lookup x=Z9 .cell\/(relabel scope env).names.lookup x=Z9 .free->scope.names.lookup x=Z9 .free:=by
 have go:∀(l:List (Str×ji)),(∀y∈l,y.2≠ .cell)->∀k,(k=NameKind.cell\/k=NameKind.free)->
   (l.map λ(n,k)=>if(k==.free&&env.scope.kind==.function&&env.kindOf n==Z9 .cell)then(n,NameKind.cell)else(n,k)).lookup x=Z9 k->l.lookup x=Z9 .free:=by
  intro l
  induction l with
  |nil=>intro _ k _ h;simp at h
  |cons y r g=>
   intro d k a h;obtain⟨n,q⟩:=y;rw[bg]at h;rw[dn];by_cases c:(q==NameKind.free&&env.scope.kind==.function&&env.kindOf n==Z9 .cell)=Z7
   .have b:q=.free:=by
     simp at c;simpa using c.1.1
    dsimp only at h
    rw[xp c,dn]at h;cases e:(x==n)with
    |true=>rw[b]
    |false=>rw[e]at h;exact g (λy f=>d y (av _ f)) k a h
   .dsimp only at h
    rw[xq c,dn]at h;cases e:(x==n)with
    |true=>
     rw[e]at h;have b:=xr h;rcases a with a|a
     .exact absurd (b.trans a) (d (n,q) ah)
     .show Z9 q=Z9 .free;rw[b,a]
    |false=>rw[e]at h;exact g (λy f=>d y (av _ f)) k a h
 rintro(h|h)
 .exact go scope.names hc .cell (.inl rfl) h
 .exact go scope.names hc .free (.inr rfl) h
def blk (X:Cx)(scope:Scope)(N':List Str)(C:Addr)(fp:List Addr)(s:ao)(H:Hp):Cx:={X with N:=N',s₀:=s,eV:=H,env:=compEnvC scope (eK X.env scope.names []) C X.env,outer:=X.stack,stack:=X.stack,ex:=fp,fn:=λ_=>Z6,xe:=λ_ _=>False,fx:=Z8}
structure BlkScope (X:Cx)(scope:Scope)(N':List Str)(nt:Nat)(js:List Nat):Prop where
 kind:scope.kind=.function
 lI:∀y∈scope.names,y.2≠.cell
 names:∀y∈scope.names,y.2=.local->scope.names.lookup y.1=Z9 .local
 frees:∀y∈scope.names,y.2=.free->X.env.scope.names.lookup y.1=Z9 .cell\/X.env.scope.names.lookup y.1=Z9 .free
 nd:N'.Nodup
 len:N'.length=nt+js.length
 pl:∀(i j:Nat),js[i]?=Z9 j->N'[nt+i]?=X.N[j]?/\∃x,X.N[j]?=Z9 x/\scope.names.lookup x=Z9 .free
def rN (NX:List Str)(Ii scope:Scope)(N':List Str)(nt:Nat)(js:List Nat):Bool:=
 (scope.kind==.function)&&scope.names.all (λy=>!(y.2==.cell))&&scope.names.all (λy=>!(y.2==.local)||(scope.names.lookup y.1==Z9 .local))&&
 scope.names.all (λy=>!(y.2==.free)||(Ii.names.lookup y.1==Z9 .cell)||(Ii.names.lookup y.1==Z9 .free))&&decide N'.Nodup&&(N'.length==nt+js.length)&&
 (N'.drop nt==js.map λj=>NX.getD j "")&&js.all (λj=>decide (j<NX.length)&&(scope.names.lookup (NX.getD j "")==Z9 .free))
theorem Pd (hN:X.N=f)(hs:X.env.scope=c)(h:rN f c scope k l m=Z7):BlkScope X scope k l m:=by
 unfold rN at h;simp only[ax,a9,decide_eq_true_eq,beq_iff_eq,eh,g9,beq_eq_false_iff_ne]at h;obtain⟨⟨⟨⟨⟨⟨⟨n,o⟩,p⟩,q⟩,r⟩,s⟩,t⟩,u⟩:=h;refine⟨n,o,λy d e=>(p y d).resolve_left (λz=>z e),λy d e=>?_,r,s,λi j g=>?_⟩
 .rw[hs];rcases q y d with(z|z)|z
  .exact absurd e z
  .exact .inl z
  .exact .inr z
 .obtain⟨a,b⟩:=u j (bx g);have e:X.N[j]?=Z9 (f.getD j ""):=by rw[hN,az,ba a];rfl
  refine⟨?_,_,e,b⟩;rw[e,<-uw,t,bt,g];rfl
def fE (nt:Nat)(js:List Nat)(σ:St):St:=bp nt Z8++js.map λj=>σ.getD j Z8
section
variable {X:Cx}{scope:Scope}{N':List Str}{nt:Nat}{js:List Nat}
theorem zls (B:BlkScope X scope Q G R)(I:Inv X D J H s)
  (w:∀b∈fp,FpOk X D H b) (S:∀b∈fp,∃o,s.heap.get? b=Z9 o)
  (k:∀b o,s.heap.get? b=Z9 o->O.get? b=Z9 o) (hn:O.Ns s.heap.objs.size m1):
  Inv (blk X scope Q s.heap.objs.size fp s H) D (fE G R J) H {s with heap:=O,toks:=t1}:=by
 have g:∀x c,(eK X.env scope.names []).lookup x=Z9 c->X.env.cells.lookup x=Z9 c:=zc3 _ _ (λy P hf=>I.ok.has y.1 (B.frees y P hf)) (λx c h=>by simp at h);have lt:∀b o,s.heap.get? b=Z9 o->b≠s.heap.objs.size:=λb o e=>br (bh e);refine⟨⟨I.ok.mod,B.kind,I.ok.glob,I.ok.blt,ar _,λx y c O h2=>I.ok.inj x y c (g x c O) (g y c h2),λx T=>Cs _ _ (zbt B.lI T),λx c h=>(by cases h),I.ok.hd,I.ok.frames,.inl rfl,λb E=>?_,I.bs,bo I.ok.iS I.sz,λb o e E=>?_,λb E T=>?_,I.stack,I.fM,λ_ _ z=>by cases z⟩,rfl,I.bare,Un.kept k,⟨m1,hn,λi x v e1 A e3=>?_⟩,λx c e=>?_,I.hok.fresh (ar _),λx c e=>I.bD x c (g x c e),λp hp=>?_,I.hok.kept k,?_,λ_ _ z=>by cases z⟩
 .obtain⟨o,K⟩:=S b E;exact⟨lt b o K,λx c h=>(w b E).2.2.2.2.1 x c (g x c h)⟩
 .rcases(w b E).2.2.2.1 with z|z
  .exact I.ok.gD b o e z
  .exact absurd (b8 (bh e) (bo I.ok.iS z)) (cg _)
 .rcases aw.mp (I.fL b T)with z|z
  .exact(w b E).2.1 z
  .exact(w b E).2.2.1 z
 .--a name with a value:one of YA z9
  have hi:G<=i:=by refine qh λh=>?_;unfold fE at A;rw[jl (dz▸h),gu,xp h]at A;cases A
  unfold fE at A;rw[fy (dz▸hi),dz,bt]at A;cases U:R[i-G]? with
  |none=>rw[U]at A;cases A
  |some j=>
   rw[U]at A;have C:J.getD j Z8=Z9 v:=xr A;obtain⟨L,y,P,f⟩:=B.pl (i-G) j U;rw[t7 hi]at L;have V:x=y:=by have M:Q[i]?=Z9 x:=e1;rw[L,P]at M;exact(xr M).symm
   subst V
   have W:J[j]?=Z9 (Z9 v):=by
    rw[az]at C;cases q:J[j]? with
    |none=>rw[q]at C;cases C
    |some z=>rw[q]at C;simp_all
   have N:=B.frees (x,.free) (PySem.mem_of_lookup f) rfl;obtain⟨m,YB,hl⟩:=I.loc;obtain⟨u,r,l⟩:=hl j x v P W (N.elim (λz=>.inr (.inl z)) (λz=>.inr (.inr z)));refine⟨u,r,?_⟩;rcases l with⟨Y,_⟩|⟨Y,c,hc,F⟩
   .rcases N with z|z
    .have t:X.env.scope.names.lookup x=Z9 .local:=Y;rw[z]at t;cases t
    .have t:X.env.scope.names.lookup x=Z9 .local:=Y;rw[z]at t;cases t
   .obtain⟨d,hd⟩:=Cs scope.names [] f;have Z:d=c:=by have:=g x d hd;rw[hc]at this;cases this;rfl
    subst Z;refine .inr ⟨?_,d,hd,?_⟩
    .rcases e3 with z|z|z
     .exfalso
      have:∀(l:List (Str×ji)),l.lookup x=Z9 .free->(l.map λ(n,k)=>if(k==.free&&X.env.scope.kind==.function&&X.env.kindOf n==Z9 .cell)then(n,NameKind.cell)else(n,k)).lookup x≠Z9 .local:=by
       intro l
       induction l with
       |nil=>intro h;simp at h
       |cons y r ih=>
        intro h;obtain⟨n,q⟩:=y;rw[dn]at h;rw[bg]
        dsimp only
        cases e:(x==n)with
        |true=>
         rw[e]at h;have hq:=xr h;subst hq;split
         .rw[dn,e];intro z;cases z
         .rw[dn,e];intro z;cases z
        |false=>
         rw[e]at h;split
         .rw[dn,e];exact ih h
         .rw[dn,e];exact ih h
      exact this _ f z
     .exact .inl z
     .exact .inr z
    .obtain⟨o,K,iW⟩:=F;exact⟨o,k _ _ K,iW⟩
 .obtain⟨v,o,K,hd⟩:=I.cell x c (g x c e);exact⟨v,o,k _ _ K,hd⟩
 .obtain⟨q1,q2,q3,q4,q5⟩:=I.pin p hp;refine⟨k _ _ q1,q2,lt _ _ q1,λz=>?_,q5⟩;rcases aw.mp (I.fL p.1 z)with z|z
  .exact q3 z
  .exact q4 z
 .show(fE G R J).length=Q.length;unfold fE;rw[am,dz,af,B.len]
end
section
variable (M:Model)(A:dh)(env:Env)
abbrev fF:Value->ao->Prop:=λ_ _=>False
def Pe (acc:Value)(Z:ao->Prop)(x:Value):ao->Prop:=wpAny M A (call (.builtin "list.append") [acc,x]) (λ_=>Z) fF
def Ct (elt:Expr)(acc:Value)(Z:ao->Prop)(ok:Bool)(s:ao):Prop:=if ok=Z7 then wpAny M A (eval elt env) (Pe M A acc Z) fF s else Z s
def Pf (ifs:List Expr)(elt:Expr)(acc:Value)(Z:ao->Prop):ao->Prop:=wpAny M A (forIn ifs Z7 λc r=>if r=Z7 then(sj c env (eval c env)>>=λok=>pure (ForInStep.yield ok))else pure (ForInStep.yield r)) (Ct M A env elt acc Z) fF
def Cu (tg:Expr)(ifs:List Expr)(elt:Expr)(acc:Value)(Z:ao->Prop)(v:Value):ao->Prop:=wpAny M A (ur tg env v) (λ_=>Pf M A env ifs elt acc Z) fF
def Cv (tg:Expr)(ifs:List Expr)(elt:Expr)(it acc:Value)(End Z:ao->Prop)(r:Option Value)(s:ao):Prop:=match r with
 |some v=>wpAny M A (kq tg it v) (λ_=>Cu M A env tg ifs elt acc Z v) fF s
 |none=>End s
end
theorem zms (I:Nat->ao->Prop)
  (one:∀k t,I k t->wpAny (model P w) A (we it) (Cv (model P w) A env g a b it c (R (.ok .next)) λi=>∃m,m<k/\I m i) fF t) n (h:I n s):
  kz (model P w) A (.compLoop (.ListComp b [⟨g,d,a,0⟩] scope pos) 0 it c env) R s:=by
 apply codeAny_loop rfl I _ n h;intro k t j;apply wpAny_noted;apply wpAny_noRaise;apply aa;apply wpAny_standAt;apply aa;refine aN (one k t j) ?_
 rintro(_|v) r e
 .exact ae e
 apply aa;refine aN e λ_ u l=>?_;apply aa;refine aN l λ_ y o=>?_;apply aa;refine aN o ?_
 rintro(_|_) z f
 .exact ae ⟨rfl,f⟩
 apply aa;apply aa;refine aN f λx B p=>?_;apply aa;exact aN p λ_ C q=>ae (ae ⟨rfl,q⟩)
theorem Un.but (u:Un fs ex H f h g)(i:h.get? C=Z8)(c:bu C g j):Un fs ex H f h j:=by
 have ne:∀b o,h.get? b=Z9 o->b≠C:=λb o e z=>by rw[z,i]at e;cases e
 exact⟨λb o e n d a=>c.extBut b o (ne b o e) (u.keep b o e n d a),λb o e n d a=>let⟨sl,q⟩:=u.slot b o e n d a;⟨sl,c.extBut b _ (ne b o e) q⟩,u.free,λb o e a=>let⟨o',q⟩:=u.there b o e a;⟨o',c.extBut b _ (ne b o e) q⟩,u.cN,u.bZ,u.cO⟩
theorem HOk.but (ok:HOk P w H h)(d:H C=Z8)(f:bu C h g):HOk P w H g:=λa o e=>by
 refine(ok a o e).stay (λb u c q=>f.extBut b u (λz=>?_) q) (λ_ q=>q) λ_ _ q=>q;rcases c with c|c
 .rw[z]at c;rw[<-c,d]at e;cases e
 .rw[z,d]at c;cases c
def pY (X:Cx)(ifs:List Expr)(t:TT):Prop:=∀(pins:List (Addr×Obj)) (s:ao) (σ:St) (H:Hp) (Q:Bool->Hp->Prop),Inv X pins σ H s->t σ H Q->wpAny (model X.prog X.w) X.A (forIn ifs Z7 λc r=>if r=Z7 then do let ok <-sj c X.env (eval c X.env);pure (ForInStep.yield ok)else pure (ForInStep.yield r)) (TP X pins σ Q) X.xe s
def Cw:TT:=λ_ H Q=>Q Z7 H
theorem Pg:pY X [] Cw:=λ_ _ _ H _ I h=>wpAny_tests_nil ⟨H,I,h⟩
theorem Ph (h:PT X c t):pY X [c] t:=λa s b H Q I q=>wpAny_tests_one (h a s b H Q I q)
def lJ (a b:St):Prop:=a.length=b.length/\∀(i:Nat) v,a[i]?=Z9 (Z9 v)->b[i]?=Z9 (Z9 v)
def Ab (wi:TI)(g:TG)(tc:TT)(te:TE)(em:St->St):TE:=λσ H Q=>wi σ H λJ H1=>∀l,H1 l=Z8->∃P:Nat->Nat->List V->Hp->Prop,(∃m,P 0 m [] (upd H1 l (.lst [])))/\∀i m acc H2,P i m acc H2->(J.stop i H2/\Q (.ref l) H2)\/(J.go i H2/\acc.length<bj/\∃N:List V->Hp->Prop,(∀lK H',N lK H'->∃m',m'<m/\P (i+1) m' lK H')/\∀x H3,J.jI i H2 x H3->g x (em σ) H3 λiX H4=>lJ (em σ) iX/\tc iX H4 λb H5=>if b=Z7 then te iX H5 λy H6=>H6 l=Z9 (.lst acc)/\N (acc++[y]) (upd H6 l (.lst (acc++[y])))else N acc H5)
section
variable {X:Cx}{scope:Scope}{N':List Str}{nt:Nat}{js:List Nat}{tg iter elt:Expr}{ifs:List Expr}{wi:TI}{g:TG}{tc:TT}{te:TE}{pos:Pos}
theorem z5e {Q:VK}{RR:Value->Addr->xo->ao->Prop}(hc:X.calm=Z7)(B:BlkScope X scope S nt js)
  (hg:∀C D s H,PG (blk X scope S C D s H) tg g) (ht:∀C D s H,pY (blk X scope S C D s H) ifs tc) (he:∀C D s H,PE (blk X scope S C D s H) elt te)
  (h2:wV X a σ tg (λJ H1=>∀l,H1 l=Z8->∃P:Nat->Nat->List V->Hp->Prop,(∃m,P 0 m [] (upd H1 l (.lst [])))/\∀i m f K,P i m f K->(J.stop i K/\Q (.ref l) K)\/(J.go i K/\f.length<bj/\∃N:List V->Hp->Prop,(∀F t,N F t->∃m',m'<m/\P (i+1) m' F t)/\∀x H3,J.jI i K x H3->g x (fE nt js σ) H3 λiX H4=>lJ (fE nt js σ) iX/\tc iX H4 λb H5=>
  if b=Z7 then te iX H5 λy H6=>H6 l=Z9 (.lst f)/\N (f++[y]) (upd H6 l (.lst (f++[y])))else N f H5)) wW j)
  (Pj:∀l C t U,(∃m,U.heap.Ns C m)->t C=Z8->C≠X.env.locals->C∉X.fs->(∀x c,X.env.cells.lookup x=Z9 c->c≠C)->X.s₀.heap.objs.size<=C->(∀p∈X.pn++a,p.1≠C)->(∀h',bu C U.heap h'->Inv X a σ t {U with heap:=h'})->Q (.ref l) t->RR (.ref l) C (.ok .next) U):
  wpAny (model X.prog X.w) X.A (newList []) (λf I=>wpAny (model X.prog X.w) X.A (newFunctionEnv scope X.env.globals (eK X.env scope.names []) [] X.env.qual Z8 .none (Z9 X.env)) (λxK Cy=>kz (model X.prog X.w) X.A (.compStart (.ListComp elt [⟨tg,iter,ifs,0⟩] scope pos) 0 wW f {xK with scope:=relabel scope X.env}) (RR f xK.locals) Cy) E I) E j:=by
 obtain⟨it,D,tn,J,K,rfl,I2,T,rO,f2,q⟩:=h2;refine ju (wpAny_newFunctionEnv B.lI (by intro y hy;simp at hy) (λh₁ L M=>?_) B.kind);have xM:∀b∈D,∃o,j.heap.get? b=Z9 o:=λb h=>let⟨o,e,_⟩:=T.obj 0 _ rO b h;⟨o,e⟩;have hl:=I2.hok.fresh (ar _);have W:=I2.lnew (t':=j.toks) .nil (dr _);obtain⟨P,⟨m0,p0⟩,turn⟩:=q _ hl;generalize Pk:j.heap.push {cls:=.type "list",dict:=Z8,data:=.seq ([]:List Value).toArray}=G at L M W ⊢;generalize Ij:j.heap.objs.size=l at hl W p0 turn ⊢;have O:∀b o,j.heap.get? b=Z9 o->G.get? b=Z9 o:=λb o e=>Pk▸ac _ e;have k:=λb o e=>M.extBut b o (br (bh e)) (ac _ e);have f3:∀b∈D,FpOk X a (upd K l (.lst [])) b:=λb h=>by obtain⟨o,e⟩:=xM b h;exact⟨by rw[aS (Ij▸br (bh e))];exact(f2 b h).1,(f2 b h).2⟩
 have J0:=zls (t1:=j.toks+([]:List (Str×Value)).length) B W f3 (λb h=>let⟨o,e⟩:=xM b h;⟨o,O b o e⟩) k L;have Cz:∀{t:Hp},(∀b∈D,t b=Z8)->∀b∈D,FpOk (blk X scope S G.objs.size D {j with heap:=G,toks:=j.toks} (upd K l (.lst []))) a t b:=λhn b h=>⟨hn b h,(J0.ok.rA b h).1,J0.ok.gF b h,.inl h,(J0.ok.rA b h).2,(f2 b h).2.2.2.2.2⟩;have out:∀{t:Hp} {U:ao},Inv (blk X scope S G.objs.size D {j with heap:=G,toks:=j.toks} (upd K l (.lst []))) a (fE nt js σ) t U->∀h',bu G.objs.size U.heap h'->Inv X a σ t {U with heap:=h'}:=λ{t U} Jn h' sb=>by exact W.call' Jn.os (Un.but Jn.base (si (ar _)) sb) (Jn.hok.but Jn.free sb) Jn.bare λb h=>⟨(f3 b h).2.2.2.1,(f3 b h).2.1,(f3 b h).2.2.2.2.1,(f3 b h).2.2.2.2.2⟩
 have nC:∀x c,X.env.cells.lookup x=Z9 c->c≠G.objs.size:=λx c e z=>by obtain⟨v,q⟩:=W.cell x c e;exact absurd q.lt (z▸cg _)
 have loop:∀I,I={j with heap:=h₁,toks:=j.toks+([]:List (Str×Value)).length}->
   kz (model X.prog X.w) X.A (.compLoop (.ListComp elt [⟨tg,iter,ifs,0⟩] scope pos) 0 (.ref it) (.ref l) (compEnvC scope (eK X.env scope.names []) G.objs.size X.env)) (RR (.ref l) G.objs.size) I:=by
  rintro I rfl
  refine zms (λn s'=>∃i f t,Inv (blk X scope S G.objs.size D {j with heap:=G,toks:=j.toks} (upd K l (.lst []))) a (fE nt js σ) t s'/\tn i s'.heap/\(∀b∈D,t b=Z8)/\P i n f t) ?_ m0 ⟨0,[],_,J0,T.keep _ _ _ rO λb _ o e=>k b o (O b o e),λb h=>(f3 b h).1,p0⟩
  rintro n s3 ⟨i,f,H3,Jn,Ac,Ik,w3⟩
  rcases turn i n f H3 w3 with⟨stop,qn⟩|⟨go,Pl,N,hN,step⟩
  .refine aN (T.done (blk X scope S G.objs.size D {j with heap:=G,toks:=j.toks} (upd K l (.lst []))) rfl rfl rfl hc i a s3 _ H3 (λ_ _=>False) Jn (Cz Ik) Ac stop) λr s4 ⟨hr,I4⟩=>?_;subst hr;obtain⟨m,hn,_⟩:=id I4.loc;exact Pj l G.objs.size H3 s4 ⟨m,hn⟩ I4.free (lg (W.lt)) (W.wN (ar _)) nC W.sz (λp hp=>br (bh (W.pin p hp).1)) (out I4) qn
  .refine aN (T.item (blk X scope S G.objs.size D {j with heap:=G,toks:=j.toks} (upd K l (.lst []))) rfl rfl rfl hc i a s3 _ H3 (λ_ _=>False) Jn (Cz Ik) Ac go) λr s4 ⟨u,hr,h4⟩=>?_;subst hr;refine aN h4 λ_ s5 ⟨x,H5,I5,r5,y5,CA,CB⟩=>aN (hg _ _ _ _ _ s5 _ H5 x u _ (I5.pinned (Cz CB) (T.obj _ _ CA)) r5 (step x H5 y5)) λ_ s6 ⟨σ6,H6,I6,kp,q6⟩=>aN (ht _ _ _ _ _ s6 σ6 H6 _ I6 q6) λb s7 ⟨H7,I7,q7⟩=>?_
   have R:∀{s7:ao} {H7:Hp} {F:List V},Inv (blk X scope S G.objs.size D {j with heap:=G,toks:=j.toks} (upd K l (.lst []))) (a++z7q D s5.heap) σ6 H7 s7->N F H7->
     ∃m,m<n/\∃i f t,Inv (blk X scope S G.objs.size D {j with heap:=G,toks:=j.toks} (upd K l (.lst []))) a (fE nt js σ) t s7/\tn i s7.heap/\(∀b∈D,t b=Z8)/\P i m f t:=λ{s7 H7 F} I7 w7=>by
    obtain⟨n',hm,w7⟩:=hN _ _ w7;refine⟨n',hm,i+1,F,H7,(I7.bU).weak kp.1 kp.2,T.keep _ _ _ CA λb h o e=>(I7.pin (b,o) (aq _ (aq _ (uO h e)))).1,λb h=>?_,w7⟩;obtain⟨o,e,d⟩:=T.obj _ _ CA b h;exact(I7.pin (b,o) (aq _ (aq _ (uO h e)))).2.1
   cases b with
   |false=>exact R I7 q7
   |true=>exact aN (he _ _ _ _ _ s7 σ6 H7 _ I7 q7) λy' s8 ⟨y,H8,I8,r8,Pm,w8⟩=>aN (Ic _ s8 σ6 H8 (.ref l) [y] (.ref l) [y'] (λ_ H9=>N (f++[y]) H9) I8 rfl (.cons r8 .nil) ⟨l,f,y,rfl,rfl,Pm,Pl,w8⟩) λ_ s9 ⟨v9,H9,I9,r9,w9⟩=>R I9 w9
 exact codeAny_compStart_list (loop _ rfl) (T.self _ 0 _ _ _ (T.keep _ _ _ rO λb _ o e=>k b o (O b o e)) (loop _ rfl))
theorem zhn (hc:X.calm=Z7)(B:BlkScope X scope d k n)(o:PI X j a wi)
  (p:∀C b s H,PG (blk X scope d C b s H) j g) (r:∀C b s H,pY (blk X scope d C b s H) e tc) (t:∀C b s H,PE (blk X scope d C b s H) f te)
  (hs:∀x,g7 a X.env x=pure x:=by intro _;rfl):PE X (.ListComp f [⟨j,a,e,0⟩] scope pos) (Ab wi g tc te (fE k n)):=by
 intro c s u H Q I h;refine p9 rfl hs (Ih λy w hf=>I.ok.has y.1 (B.frees y w hf)) B.kind B.names (aN (o c s u H _ I h) λv z A=>aN A λD K E=>?_);refine z5e hc B p r t E ?_;intro l C F z ns _ _ _ _ _ _ i q;obtain⟨m,hn⟩:=ns;exact⟨m,hn,λG J=>⟨.ref l,F,i G J,rfl,q⟩⟩
def Pn (i:Nat)(t:TE):TS:=λD σ H=>t σ H λv H1=>D.nx (σ.set i (Z9 v)) H1
theorem zh1 (hc:X.calm=Z7)(hN:X.N.Nodup)(hy:X.N[i]?=Z9 y)(R:X.env.scope.names.lookup y=Z9 .local)(B:BlkScope X scope u nt js)(hi:PI X E a wi)
  (hg:∀C d s H,PG (blk X scope u C d s H) E g) (ht:∀C d s H,pY (blk X scope u C d s H) f tc) (he:∀C d s H,PE (blk X scope u C d s H) j te)
  (F:n4 (.ListComp j [⟨E,a,f,0⟩] scope pos) (Z9 (.Name y G)) k.line X.env=pure Z7)
  (hs:∀x,g7 a X.env x=pure x:=by intro _;rfl):PS X (.Assign [.Name y G] (.ListComp j [⟨E,a,f,0⟩] scope pos) k) (Pn i (Ab wi g tc te (fE nt js))):=by
 intro c s J H D I h;rw[exec_Assign_Name_used _ _ _ _ F];apply aa;apply wpAny_standAt;apply aa;refine aa (jg (p9 (use:=Z9 (ur (.Name y G) X.env)) rfl hs (Ih λz hz hf=>I.ok.has z.1 (B.frees z hz hf)) B.kind B.names (aN (hi c s J H _ I h) λv K h1=>aN h1 λwW s2 h2=>?_)) (λ_ S hq=>ae (ae hq)) λ_ _ e=>e);refine z5e (Q:=λv H1=>D.nx (J.set i (Z9 v)) H1) (RR:=λL C=>compPost (model X.prog X.w) X.A X.xe (Z9 (ur (.Name y G) X.env)) (λ_ S=>SP X c D .next S) L C) hc B hg ht he h2 ?_;intro l C T K ns U V nF nC nS nP M q;obtain⟨m,hn⟩:=ns;have W:=M K.heap (.refl ..);obtain⟨t,es,ep,O,n,P⟩:=id hn
 have I2:Inv X (c++[(C,t)]) J T K:=W.dM λp hp=>(cf.mp hp).elim (λz=>W.pin p (aq _ z)) λz=>by
  have e:p=(C,t):=by simpa using z
  subst e;exact⟨O,U,V,nF,λv z=>by have Y:=z;rw[n]at Y;cases Y⟩
 refine vb (z6f I2 hN hy (.inl R) (v:=.ref l) rfl (λmO r=>?_) (.inr R));refine⟨m,⟨t,es,ep,(r.pin (C,t) (aq _ (aq _ (ay.mpr rfl)))).1,n,P⟩,λh' sb=>⟨_,T,?_,q⟩⟩;exact(r.bU).turned (λb o hb e=>sb.extBut b o hb e) U V (.inr nS) nC nP
end
theorem zvj {J:It}{g:TG}{tc:TT}{te:TE}{Q:VK}(P:Nat->List V->Hp->Prop)(hn:n<=bj)(h0:P 0 [] (upd A l (.lst [])))
  (q:∀i a H,P i a H->a.length<=i)
  (h:∀a H,P n a H->J.stop n H/\Q (.ref l) H) (u:∀i a H,i<n->P i a H->J.go i H)
  (r:∀i a H x j,i<n->P i a H->J.jI i H x j->g x k j λc v=>lJ k c/\tc c v λb s=>if b=Z7 then te c s λy t=>t l=Z9 (.lst a)/\P (i+1) (a++[y]) (upd t l (.lst (a++[y])))else P (i+1) a s):
  ∃P:Nat->Nat->List V->Hp->Prop,(∃m,P 0 m [] (upd A l (.lst [])))/\∀i m a f,P i m a f->(J.stop i f/\Q (.ref l) f)\/(J.go i f/\a.length<bj/\∃N:List V->Hp->Prop,(∀d w,N d w->∃z,z<m/\P (i+1) z d w)/\∀x j,J.jI i f x j->g x k j λc v=>lJ k c/\tc c v λb s=>if b=Z7 then te c s λy t=>t l=Z9 (.lst a)/\N (a++[y]) (upd t l (.lst (a++[y])))else N a s):=by
 refine⟨λi m a H=>i<=n/\m=n-i/\P i a H,⟨n,dr _,rfl,h0⟩,?_⟩
 rintro i m a f ⟨C,rfl,p⟩
 by_cases o:i<n
 .have D:=q i a f p;exact .inr ⟨u i a f o p,by omega,P (i+1),λd w B=>⟨n-(i+1),by omega,o,rfl,B⟩,λx j y=>r i a f x j o p y⟩
 .have e:i=n:=by omega
  subst e;exact .inl (h a f p)
section
variable {X:Cx}
def xN:V->Option Int->Option Int->Hp->VK->Prop:=λx lo hi H Q=>∃z,x=.str z/\z.length<=bj/\Q (.str (Txt.slice z lo hi)) H
theorem Po:mP X xN:=by
 rintro b s h H x v r w m n sl Q I p hs pl f ⟨z,rfl,c,q⟩
 obtain⟨t,rfl⟩:=p;refine⟨"str",_,PySem.F.slot_str_getitem.lookup,xd _ _ _,?_⟩;obtain⟨o,d,hc,hd⟩:=hs;have a:∀g k,EP X b h Q (.str (Txt.slice z m n) g) {s with toks:=k}:=λg k=>⟨.str _,H,I.tok _,⟨_,rfl⟩,q⟩;cases pl with
 |none=>
  cases f with
  |none=>exact j4 (l:=Z8) (u:=Z8) (st:=Z8) ⟨o,d,hc,hd⟩ rfl (oq ⟨bo (Txt.slice_le z _ _) c,a⟩)
  |int j e=>exact j4 (l:=Z8) (u:=Z9 (j,e)) (st:=Z8) ⟨o,d,hc,hd⟩ rfl (oq ⟨bo (Txt.slice_le z _ _) c,a⟩)
 |int i ti=>
  cases f with
  |none=>exact j4 (l:=Z9 (i,ti)) (u:=Z8) (st:=Z8) ⟨o,d,hc,hd⟩ rfl (oq ⟨bo (Txt.slice_le z _ _) c,a⟩)
  |int j e=>exact j4 (l:=Z9 (i,ti)) (u:=Z9 (j,e)) (st:=Z8) ⟨o,d,hc,hd⟩ rfl (oq ⟨bo (Txt.slice_le z _ _) c,a⟩)
end
def Own (K:Z5)(mg:Str->Option Value)(x:Str)(st:Stmt)(ps:List Str):Prop:=∃f fd,Fun K x x st f fd/\mg x=Z9 (.ref f)/\W.keepIn K (.ref f)=Z7/\Binds K fd ps []
def Cal (P:b9)(w:World)(K:Z5)(mg:Str->Option Value)(base:Heap)(k:Nat)(x:Str)(ps:List Str)(sp:Sp):Prop:=∃f fd,FnOk P w K mg base iU k f fd ps sp/\mg x=Z9 (.ref f)/\W.keepIn K (.ref f)=Z7/\Binds K fd ps []
section
variable {P:b9}{w:World}{K:Z5}{mg:Str->Option Value}{base:Heap}
theorem zuh {st:Stmt}{kV:Value}(X:K.In h)(G:h.Ns ci mg)
  (a:W.nsIn K ci x=Z9 (Z9 (.ref f))) (l:K.lookup f=Z9 ⟨oc,od,.func (W.fnOf x x (lH st) (z0o st) (z09 st) .none kV e i an d ct),j⟩) (c:W.codeIn K d x=Z7) (k:W.keepIn K (.ref f)=Z7)
  (b:∀kV e i an d ct g,g.length=ps.length->xb (W.fnOf x x (lH st) (z0o st) (z09 st) .none kV e i an d ct) ⟨g,[]⟩=pure (ps.zip g)):Own K mg x st ps:=
 ⟨f,_,Cr l c k,W.mg_of X G a,k,(Cr l c k).binds b⟩
end
def isStar:Expr->Bool
 |.Starred ..=>Z7
 |_=>Z6
theorem gK (h:isStar e=Z6):fh (e::a) env=(Z6,eval e env)::fh a env:=by cases e<;>first|rfl|cases h
theorem nU:∀{es:List Expr},(es.all λe=> !isStar e)=Z7->(oh pos (fh es env)).any (·.1)=Z6
 | [],_=>rfl
 |e::es,h=>by have a:=b6.mp (fq▸h);rw[gK (by simpa using a.1)];show(Z6||(oh pos (fh es env)).any (·.1))=Z6;rw[nU a.2];rfl
section
variable {X:Cx}{x:Str}{p pos:Pos}{e:Expr}{es:List Expr}{t:TA}{id T:String}{r:List V->Hp->VK->Prop}
theorem gL (a:PE X e te)(hr:PA X es t)(hs:isStar e=false:=by rfl):PA X (e::es) (Ci te t):=xA a hr (gK hs)
theorem xO (hc:CallR X (.builtin id) r)(hm:X.mg x=Z8)(c:c9 x=Z9 (.builtin id))(d:PA X (e::es) t)(a:((e::es).all λe=> !isStar e)=true:=by rfl)(f:Gl X x:=by rfl)(hn:x≠"__name__":=by decide)(b:Y4 x:=by decide):PE X (.Call (.Name x p) (e::es) [] pos) (xE r t):=by rw[fq,ax]at a;exact zg2 hc f hm c d hn b (gK (by simpa using a.1)) (nU a.2)
theorem CC (hc:CallR X (.type T) r)(hm:X.mg x=Z8)(c:c9 x=Z9 (.type T))(d:PA X (e::es) t)(a:((e::es).all λe=> !isStar e)=true:=by rfl)(f:Gl X x:=by rfl)(hn:x≠"__name__":=by decide)(b:Y4 x:=by decide):PE X (.Call (.Name x p) (e::es) [] pos) (xE r t):=by rw[fq,ax]at a;exact zfo hc f hm c d hn b (gK (by simpa using a.1)) (nU a.2)
theorem za1 (C:Cal X.prog X.w X.K X.mg X.base k x ps d)(hr:Room g X.A)(h:PA X (e::es) t)(a:((e::es).all fun e=> !isStar e)=true:=by rfl)(i:k<=g:=by decide)(j:Gl X x:=by rfl)
  (c:Y4 x:=by decide):PE X (.Call (.Name x p) (e::es) [] pos) (HF d [] E0 t):=by
 obtain⟨f,fd,F,m,kp,b⟩:=C;rw[fq,ax]at a;exact zl5 F (hr.mono i) j m kp b .nil Pb h c (gK (by simpa using a.1)) (nU a.2)
end
def z2a:Expr->Bool
 |.ListComp ..=>Z7
 |.SetComp ..=>Z7
 |.DictComp ..=>Z7
 |_=>Z6
theorem uQ (h:z2a e=Z6)(a:Option Expr)(n:Nat)(env:Env):n4 e a n env=pure false:=by cases e<;>first|rfl|cases h
theorem xP (hN:X.N.Nodup)(a:X.N[i]?=Z9 x)(b:Loc X.env.scope x)(c:PE X e te)(hs:z2a e=false:=by rfl)(hf:X.fn x=Z7\/X.env.scope.names.lookup x=Z9 .local:=by first|exact .inl rfl|exact .inr rfl|assumption): PS X (.Assign [.Name x pos'] e pos) (rE te (B9 i)):=zkf hN a b c (uQ hs _ _ _) hf
theorem nV (a:PE X e te)(hs:z2a e=false:=by rfl):PS X (.Expr e pos) (Hv te):=N1 a (uQ hs _ _ _)
section
variable {X:Cx}
def CD (K:Z5):R2:=λx y H Q=>kO (λi j=>.int (i+j)) x y H Q\/(∃i j,x=.str i/\y=.str j/\i.length+j.length<=bj/\Q (.str (i++j)) H)\/xJ x y H Q\/HV K x y H Q
def xQ:R2:=λx y H Q=>kO (λi j=>.bl (decide (i<j))) x y H Q
def xR:R2:=λx y H Q=>kO (λi j=>.bl (decide (i<=j))) x y H Q
def xS:R2:=λx y H Q=>kO (λi j=>.bl (decide (j<i))) x y H Q
def CF (K:Z5):V->Option Int->Option Int->Hp->VK->Prop:=λx lo hi H Q=>xI K x lo hi H Q\/xN x lo hi H Q
def Pp (K:Z5):List V->Hp->VK->Prop:=λxs H Q=>(∃z,xs=[.str z]/\z.length<=bj/\Q (.int z.length) H)\/(∃p ys,xs=[.ref p]/\(SqL K H p ys\/cA K H p ys)/\Q (.int ys.length) H)
theorem Pq:OpR X (iz .Add) (CD X.K):=Oc.or (Ot.or (O7.or OR))
theorem CG:OpR X (fi .Lt) xQ:=Oh
theorem CH:OpR X (fi .LtE) xR:=Oi
theorem CJ:OpR X (fi .Gt) xS:=Oj
theorem Pr:kP X (HY X.K):=OV
theorem Pt:mP X (CF X.K):=OZ.or Po
theorem Pu:CallR X (.builtin "len") (Pp X.K):=O2.or O1
end
def iY (t T:String):Bool:=t==T||(t=="bool"&&T=="int")
def nW:List String:=["NoneType","bool","int","str","list","tuple","dict"]
def tysB:List String:=["str","int","bool","tuple","list"]
theorem Pw (K:Z5):∀t∈nW,∀T∈tysB,W.kitOne K (.type t) (.type T)=Z9 (iY t T):=by intro t a T b;simp only[nW,aw,eu,or_false]at a;simp only[tysB,aw,eu,or_false]at b;rcases a with rfl|rfl|rfl|rfl|rfl|rfl|rfl<;>rcases b with rfl|rfl|rfl|rfl|rfl<;>kernel_rfl
section
variable {D:Ends}{σ:St}{H:Hp}{Q:VK}{t u:TS}{te ta tb YC:TE}{r r':R2}{K:Z5}
theorem Px (h:Q (.int (i+j)) H):CD K (.int i) (.int j) H Q:=.inl ⟨i,j,rfl,rfl,h⟩
theorem Py (c:i.length+j.length<=bj)(h:Q (.str (i++j)) H):CD K (.str i) (.str j) H Q:=.inr (.inl ⟨i,j,rfl,rfl,c,h⟩)
theorem Pz (h:Q (.bl (decide (i<j))) H):xQ (.int i) (.int j) H Q:=⟨i,j,rfl,rfl,h⟩
theorem PB (h:Q (.bl (decide (i<=j))) H):xR (.int i) (.int j) H Q:=⟨i,j,rfl,rfl,h⟩
theorem PD (h:Q (.bl (decide (j<i))) H):xS (.int i) (.int j) H Q:=⟨i,j,rfl,rfl,h⟩
end
section
variable {K:Z5}{H:Hp}{Q:VK}
theorem Same.upd (h:H p=Z8):Same H (L2.upd H p o):=λb u e=>by rw[aS (dF e h)];exact e
theorem CK (h:n<=1000):n<=bj:=bo h (by rw[io];decide)
end
end L2
namespace Mi
open PySem
abbrev D:=ak
set_option genInjectivity true in
inductive Res (α:Type) where
 |ok (a:α)|exc (e:D)|no
namespace Res
def bind {α β:Type}(x:Res α)(f:α->Res β):Res β:=match x with
 |.ok a=>f a
 |.exc e=>.exc e
 |.no=>.no
instance:Monad Res where
 pure:=.ok
 bind:=Res.bind
theorem aB {b c:Type}(a:b)(f:b->Res c):(Res.ok a>>=f)=f a:=rfl
theorem lL {α β:Type}(e:D)(f:α->Res β):((Res.exc e:Res α)>>=f)=.exc e:=rfl
theorem nX {α β:Type}(f:α->Res β):((Res.no:Res α)>>=f)=.no:=rfl
def eE {α:Type}:Option α->Res α
 |some a=>.ok a
 |none=>.no
theorem aA {c d:Type}{x:Res c}{f:c->Res d}{b:d}(h:(x>>=f)=.ok b):∃a,x=.ok a/\f a=.ok b:=by
 cases x with
 |ok a=>exact⟨a,rfl,h⟩
 |exc e=>cases h
 |no=>cases h
end Res
mutual
def imm:ak->Bool
 |.tuple xs=>imms xs
 |.list _=>Z6
 |.dict _=>Z6
 |.none=>Z7
 |.bool _=>Z7
 |.int _=>Z7
 |.str _=>Z7
def imms:List ak->Bool
 | []=>Z7
 |x::xs=>imm x&&imms xs
end
theorem xT:∀{a:List D},imms a=Z7↔∀x∈a,imm x=Z7
 | []=>by simp[imms]
 |x::a=>by rw[imms,ax,xT];simp
abbrev aY:D->D->Bool:=PyData.eqv
mutual
def shal:Nat->ak->Bool
 |0,.tuple _=>Z6
 |0,.list _=>Z6
 |n+1,.tuple xs=>cQ n xs
 |n+1,.list xs=>cQ n xs
 |_,.dict _=>Z6
 |_,.none=>Z7
 |_,.bool _=>Z7
 |_,.int _=>Z7
 |_,.str _=>Z7
def cQ:Nat->List ak->Bool
 |_,[]=>Z7
 |n,x::xs=>shal n x&&cQ n xs
end
theorem jJ:∀{a:List D},cQ n a=Z7↔∀x∈a,shal n x=Z7
 | []=>by simp[cQ]
 |x::a=>by rw[cQ,ax,jJ];simp
def truth:ak->Bool
 |.none=>Z6
 |.bool b=>b
 |.int i=>!decide (i=0)
 |.str x=>!decide (x.length=0)
 |.tuple xs=>!xs.isEmpty
 |.list xs=>!xs.isEmpty
 |.dict es=>!es.isEmpty
def iT (n:Nat)(i:Int):Option Nat:=if 0<=i then(if i<n then Z9 i.toNat else Z8)else if -(n:Int)<=i then Z9 (i+n).toNat else Z8
def cY {α:Type}(xs:List α)(i:Int):Option α:=(iT xs.length i).bind λj=>xs[j]?
def bA (n d:Nat):Option Int->Nat
 |none=>d
 |some v=>if v<0 then(v+(n:Int)).toNat else min v.toNat n
def cut {α:Type}(xs:List α)(lo hi:Option Int):List α:=(xs.drop (bA xs.length 0 lo)).take (bA xs.length xs.length hi-bA xs.length 0 lo)
def eqK:ak->ak->Bool
 |.int a,y=>match y with|.int b=>a==b|_=>Z6
 |.str a,y=>match y with|.str b=>decide (a=b)|_=>Z6
 |_,_=>Z6
def jK:ak->Bool
 |.int _=>Z7
 |.str _=>Z7
 |_=>Z6
abbrev cR:=List (D×D)
def fV (es:cR)(k:D):Option D:=(es.find? λe=>eqK e.1 k).map (·.2)
def dput (es:cR)(k v:D):cR:=if es.any (λe=>eqK e.1 k)then es.map (λe=>if eqK e.1 k then(e.1,v)else e)else es++[(k,v)]
def ent (e:D×D):D:=.tuple [e.1,e.2]
def jL:cR->List D->Option cR
 |es,[]=>Z9 es
 |es,p::ps=>match p with
  |.tuple [k,v]=>if jK k then jL (dput es k v) ps else Z8
  |_=>Z8
mutual
def bL:ak->ak->Bool
 |.int a,y=>match y with|.int b=>decide (a<b)|_=>Z6
 |.str a,y=>match y with|.str b=>decide (a.cps.toList<b.cps.toList)|_=>Z6
 |.tuple xs,y=>match y with|.tuple ys=>aF xs ys|_=>Z6
 |.none,_=>Z6
 |.bool _,_=>Z6
 |.list _,_=>Z6
 |.dict _,_=>Z6
def aF:List ak->List ak->Bool
 | [],ys=>!ys.isEmpty
 |x::xs,ys=>match ys with|y::ys=>if aY x y then aF xs ys else bL x y| []=>Z6
end
mutual
def cmpb:ak->ak->Bool
 |.int _,y=>match y with|.int _=>Z7|_=>Z6
 |.str _,y=>match y with|.str _=>Z7|_=>Z6
 |.tuple xs,y=>match y with|.tuple ys=>z2z xs ys|_=>Z6
 |.none,_=>Z6
 |.bool _,_=>Z6
 |.list _,_=>Z6
 |.dict _,_=>Z6
def z2z:List ak->List ak->Bool
 | [],_=>Z7
 |x::xs,ys=>match ys with|y::ys=>cmpb x y&&z2z xs ys| []=>Z7
end
def dQ (x:D):List D->List D
 | []=>[x]
 |y::ys=>if bL y x then y::dQ x ys else x::y::ys
def z1b:List D->List D
 | []=>[]
 |x::xs=>dQ x (z1b xs)
def uR:D->Bool
 |.int _=>Z7
 |_=>Z6
def uS:D->Bool
 |.str _=>Z7
 |_=>Z6
def ofK (b:Bool)(x:D):Bool:=if b then uR x else uS x
def cH:List Bool->List D->Bool
 | [],xs=>xs.isEmpty
 |b::bs,xs=>match xs with|x::xs=>ofK b x&&cH bs xs| []=>Z6
def z2n (bs:List Bool):D->Bool
 |.tuple xs=>cH bs xs
 |_=>Z6
def lM (xs:List D):Bool:=xs.all uR||xs.all uS||(match xs with|.tuple ys::_=>!ys.isEmpty&&xs.all (z2n (ys.map uR))|_=>Z6)
def lN:D->Bool
 |.tuple xs=>xs.all (z2n [Z6,Z7])
 |_=>Z6
def neP:D->Bool
 |.tuple (x::xs)=>(x::xs).all (z2n [Z6,Z7])
 |_=>Z6
def nY:D->Bool
 |.tuple [.str _,a,b]=>lN a&&lN b
 |_=>Z6
def kQ (xs:List D):Bool:=lM xs||(decide (xs.length<2)||(xs.all neP||xs.all nY))
section
inductive G where
 |fr|od|al|nu
 deriving Inhabited,DecidableEq
abbrev Rho:=List (Option (G×D))
abbrev GD:=G×D
inductive Tg where
 |nm (i:Nat)|tp (is:List Nat)
 deriving Inhabited,DecidableEq
inductive C where
 |var (i:Nat)|bK|bl (b:Bool)|int (i:Int)|str (x:Str)|glob (k:Nat) (x:Str)|bin (op:vr) (a b:C)|cmp (op:CmpOp) (a b:C)|lO (neg:Bool) (a:C)|and (a b:C)|or (a b:C)|not (a:C)|rP (c a b:C)|tup (xs:C)|lst (xs:C)|rep (xs b:C)|iG|ix (a b:C)|sl (a lo hi:C)|call (k:Nat) (f:Str) (args:C)|bi (f:String) (args:C)|eF (f:String) (a:C)|iY (a:C) (ts:List String)|mt (m:String) (o args:C)|comp (nt:Nat) (js:List Nat) (N':List Str) (tg:Tg) (it cond elt:C)|sortI (i:Nat)|gM (args:C)|zip (a b:C)|tv (a:C)|fG (b:Bool) (x:Str)|lset (a:C)|nil|cons (a r:C)
 deriving Inhabited
inductive S where
 |nil|seq (a b:S)|asg (t:Tg) (e:C)|eD (i:Nat) (k v:C)|mut (m:String) (i:Nat) (args:C)|drop (e:C)|ret (e:C)|bP (c:C) (a b:S)|aX (t:Tg) (it:C) (b:S)|wh (n:Nat) (c:C) (b:S)|uT (s:S)|pZ (c:Str)
 deriving Inhabited
inductive Out where
 |nx (ρ:Rho)|rt (g:G) (d:D)
abbrev Fn:=List D->Res GD
def aU:Nat:=1000000
def Il:G->G
 |.fr=>.al
 |.od=>.od
 |.al=>.al
 |.nu=>.nu
def Ae:Option (Option GD)->Res GD
 |some (Z9 (g,d))=>.ok (if imm d then .fr else Il g,d)
 |_=>.no
def iH:D->Res Bool
 |.str x=>if x.length<=aU then .ok (!decide (x.length=0))else .no
 |d=>.ok (truth d)
def fO:G->G
 |.fr=>.fr
 |.od=>.al
 |.al=>.al
 |.nu=>.fr
def agG:G->G
 |.fr=>.fr
 |.od=>.al
 |.al=>.al
 |.nu=>.nu
def gJ (d:D)(g:G):G:=if imm d then .fr else g
def gN (d:D)(g:G):G:=match d with
 |.list xs=>if imms xs then .fr else g
 |d=>gJ d g
def cI (xs:List GD):G:=if xs.all (λx=>x.1==.fr)then .fr else if xs.all (λx=>x.1==.fr||x.1==.nu)then .nu else .al
def qA (xs:List GD):G:=if xs.all (λx=>x.1==.fr)then .fr else .al
def okIn (x:GD):Bool:=imm x.2||(x.1==.fr||x.1==.nu)
def bV (es:cR):Bool:=es.all λe=>imm e.2
def z1l:GD->GD
 |(g,d)=>if imm d then(.al,d)else match g,d with
  |.fr,.list xs=>(if imms xs then .fr else .nu,.list xs)
  |.fr,.dict es=>(if bV es then .fr else .nu,.dict es)
  |.fr,d=>(.nu,d)
  |.nu,d=>(.nu,d)
  |.od,d=>(.od,d)
  |.al,d=>(.al,d)
def iZ:GD->GD
 |(g,d)=>match g with|.od=>(.od,d)|_=>(.al,d)
def iI:Option GD->Option GD
 |some (.fr,d)=>Z9 (.al,d)
 |some (.nu,d)=>Z9 (.al,d)
 |s=>s
def dW:Option GD->Option GD
 |some (.al,d)=>if imm d then Z9 (.al,d)else Z8
 |s=>s
def settle:Option GD->Option GD
 |some (.nu,d)=>Z9 (.od,d)
 |some (.al,d)=>if imm d then Z9 (.al,d)else Z9 (.od,d)
 |s=>s
def cV:Option GD->Option GD
 |some (g,d)=>if imm d then Z9 (.al,d)else Z9 (.od,d)
 |none=>Z8
def CL:Option GD->Bool
 |some (.fr,_)=>Z7
 |_=>Z6
def noOwn (ρ:Rho):Bool:=ρ.all λs=>!CL s
def nZ:Rho->List Nat->List D->G->Option Rho
 |ρ,[],[],_=>Z9 ρ
 |ρ,i::is,d::ds,g=>nZ (ρ.set i (Z9 (iZ (gJ d g,d)))) is ds g
 |_,_,_,_=>Z8
def cZ:Tg->GD->Rho->Res Rho
 |.nm i,x,ρ=>.ok (ρ.set i (Z9 (iZ x)))
 |.tp is,(g,.tuple ds),ρ=>Res.eE (nZ ρ is ds g)
 |_,_,_=>.no
def CM:D->Res D
 |.str x=>if x.length<=aU then .ok (.int x.length)else .no
 |.tuple xs=>.ok (.int xs.length)
 |.list xs=>.ok (.int xs.length)
 |.dict es=>.ok (.int es.length)
 |_=>.no
def fW {α:Type}(n:Nat)(xs:List α):List α:=(bp n xs).flatten
def cB:vr->D->D->Res D
 |.Add,.int a,.int b=>.ok (.int (a+b))
 |.Add,.str a,.str b=>if a.length+b.length<=aU then .ok (.str (a++b))else .no
 |.Add,.list a,.list b=>if a.length+b.length<=aU then .ok (.list (a++b))else .no
 |.Add,.tuple a,.tuple b=>if a.length+b.length<=aU then .ok (.tuple (a++b))else .no
 |.Sub,.int a,.int b=>.ok (.int (a-b))
 |.Mult,.str a,.int n=>if 0<=n/\n<=aU/\a.length*n.toNat<=aU then .ok (.str ⟨(fW n.toNat a.cps.toList).toArray⟩)else .no
 |.Mult,.int a,.int b=>if(-(2 ^ 64)<a/\a<2 ^ 64)\/(-(2 ^ 64)<b/\b<2 ^ 64)then .ok (.int (a*b))else .no
 |.FloorDiv,.int a,.int b=>if 0<b/\b<2 ^ 200 then .ok (.int (a/b))else .no
 |.Mod,.int a,.int b=>if 0<b then .ok (.int (a%b))else .no
 |.Pow,.int a,.int b=>if 0<=b/\b<=1000/\a.natAbs<2 ^ 64 then .ok (.int (a ^ b.toNat))else .no
 |_,_,_=>.no
def inD (x:D):D->Res Bool
 |.list xs=>if shal 40 x&&cQ 40 xs then .ok (xs.any λy=>aY y x)else .no
 |.tuple xs=>if shal 40 x&&cQ 40 xs then .ok (xs.any λy=>aY y x)else .no
 |.dict es=>if jK x then .ok (fV es x).isSome else .no
 |_=>.no
def cmpD:CmpOp->D->D->Res Bool
 |.Eq,x,y=>if shal 40 x&&shal 40 y then .ok (aY x y)else .no
 |.NotEq,x,y=>if shal 40 x&&shal 40 y then .ok (!aY x y)else .no
 |.Lt,.int a,.int b=>.ok (decide (a<b))
 |.LtE,.int a,.int b=>.ok (decide (a<=b))
 |.Gt,.int a,.int b=>.ok (decide (b<a))
 |.In,x,y=>inD x y
 |.NotIn,x,y=>inD x y>>=λb=>.ok (!b)
 |_,_,_=>.no
def iJ:D->D->Res D
 |.list xs,.int i=>Res.eE (cY xs i)
 |.tuple xs,.int i=>Res.eE (cY xs i)
 |.str z,.int i=>if z.length<=aU then Res.eE ((cY z.cps.toList i).map λc=>.str ⟨#[c]⟩)else .no
 |.dict es,k=>if jK k then Res.eE (fV es k)else .no
 |_,_=>.no
def rQ (z:Str)(lo hi:Option Int):Str:=⟨(cut z.cps.toList lo hi).toArray⟩
def oA:D->Option Int->Option Int->Res D
 |.list xs,lo,hi=>.ok (.list (cut xs lo hi))
 |.tuple xs,lo,hi=>if bA xs.length 0 lo=0/\bA xs.length xs.length hi=xs.length then .no else .ok (.tuple (cut xs lo hi))
 |.str z,lo,hi=>if z.length<=aU then .ok (.str (rQ z lo hi))else .no
 |_,_,_=>.no
def rR:D->Res (Option Int)
 |.int i=>.ok (Z9 i)
 |_=>.no
def z53:D->Res (List D)
 |.list xs=>.ok xs
 |.tuple xs=>.ok xs
 |_=>.no
def fP:List D->Option Int
 | []=>Z9 0
 |.int i::r=>(fP r).map (i+ ·)
 |_=>Z8
def allB:List D->Option (List Bool)
 | []=>Z9 []
 |.bool b::r=>(allB r).map (b:: ·)
 |_=>Z8
def dI:List D->Option (List Str)
 | []=>Z9 []
 |.str b::r=>(dI r).map (b:: ·)
 |_=>Z8
def z4n:D->Res (Bool×List D)
 |.list xs=>.ok (Z7,xs)
 |.tuple xs=>.ok (Z6,xs)
 |_=>.no
def aggD (f:String)(l:Bool)(xs:List D):Res D:=
 if f="list"then .ok (.list xs)
 else if f="tuple"then .ok (.tuple xs)
 else if f="sorted"then(if(l||imms xs)&&kQ xs&&decide (xs.length<64)then .ok (.list (z1b xs))else .no)
 else if f="sum"then(if l then Res.eE ((fP xs).map .int)else .no)
 else if f="any"then(if l then Res.eE ((allB xs).map λbs=>.bool (bs.any id))else .no)
 else if f="dict"then Res.eE ((jL [] xs).map .dict)
 else .no
def vI:D->Option Int
 |.int i=>Z9 i
 |_=>Z8
def vT:D->Option (List D)
 |.tuple xs=>Z9 xs
 |_=>Z8
def min2 (x y:D):Res D:=Res.eE ((vI x).bind λa=>(vI y).map λb=>.int (min a b))
def minD (xs:List D):Res D:=if xs.length=2 then min2 (xs.getD 0 .none) (xs.getD 1 .none)else if xs.length=1 then(match vT (xs.getD 0 .none)with|some ys=>if ys.length=2 then min2 (ys.getD 0 .none) (ys.getD 1 .none)else .no|none=>.no)else .no
def eJ:List Str->List Str->List Str
 |acc,[]=>acc
 |acc,z::ws=>eJ (if z∈acc then acc else acc++[z]) ws
def qB (xs:List D):Res D:=match dI xs with
 |some ws=>if decide (ws.length<4000)then .ok (.int ((eJ [] ws).length:Int))else .no
 |none=>.no
def CN:D->Bool
 |.int _=>Z7
 |.str _=>Z7
 |_=>Z6
def kd:Nat->D->Bool
 |0,d=>CN d
 |n+1,d=>match d with
  |.tuple xs=>xs.all (kd n)
  |d=>CN d
def jM:List D->Bool
 | []=>Z7
 |x::xs=>(xs.all λy=>!aY x y&& !aY y x)&&jM xs
def oB:D->Bool
 |.tuple xs=>xs.all (kd 7)
 |_=>Z6
def rS (xs:List D):Bool:=decide (xs.length<=61)&&((xs.all λx=>oB x&&shal 8 x)&&jM xs)
def uU:D->Res D
 |.list xs=>if rS xs=Z7 then .ok (.int xs.length)else qB xs
 |.tuple xs=>qB xs
 |_=>.no
def toS (l:List Nat):Str:=⟨l.toArray⟩
def gO (f:String)(xs:List D):Res D:=
 if f="len"then(match xs with| [x]=>CM x|_=>.no)
 else if f="max"then(match xs with| [.int a,.int b]=>.ok (.int (max a b))|_=>.no)
 else if f="int"then(match xs with| [.int a]=>.ok (.int a)| [.bool b]=>.ok (.int (if b then 1 else 0))|_=>.no)
 else if f="min"then minD xs
 else .no
def gP:D->String
 |.none=>"NoneType"|.bool _=>"bool"|.int _=>"int"|.str _=>"str"|.tuple _=>"tuple"|.list _=>"list"|.dict _=>"dict"
def jN (t T:String):Bool:=t==T||(t=="bool"&&T=="int")
def Af (sep:List Nat):List Str->List Nat
 | []=>[]
 |x::r=>x.cps.toList++(r.map λp=>sep++p.cps.toList).flatten
def qC (sep:Str)(xs:List Str):Str:=⟨(Af sep.cps.toList xs).toArray⟩
def CO (sep:Str)(xs:List Str):Nat:=(xs.map (·.length)).sum+xs.length*sep.length
def mtD (m:String)(o:D)(xs:List D):Res D:=
 if m="get"then(match o,xs with|.dict es,[k,d]=>if jK k then .ok ((fV es k).getD d)else .no|_,_=>.no)
 else if m="join"then(match o,xs with|.str z,[.list ys]=>(match dI ys with|some ss=>if CO z ss<=aU then .ok (.str (qC z ss))else .no|none=>.no)|_,_=>.no)
 else .no
def jO:List D->Res (List D)
 | [.int n]=>if n<=aU/\-aU<=n then .ok ((cr n.toNat).map λ(i:Nat)=>.int i)else .no
 |_=>.no
def zipD:List D->List D->List D
 |x::xs,y::ys=>.tuple [x,y]::zipD xs ys
 |_,_=>[]
def seqR:D->Res (List D)
 |.list xs=>if decide (xs.length<=aU)then .ok xs else .no
 |.tuple xs=>if decide (xs.length<=aU)then .ok xs else .no
 |_=>.no
def lP (ys:List GD):D->Res GD
 |.int n=>if imms (ys.map (·.2))=Z7/\0<=n/\n<=aU/\ys.length*n.toNat<=aU then .ok (.fr,.list (fW n.toNat (ys.map (·.2))))else .no
 |_=>.no
def oc:Option GD->List GD->List GD
 |some y,r=>y::r
 |none,r=>r
def jP (f:D->Res (Option GD)):List D->Res (List GD)
 | []=>.ok []
 |x::xs=>f x>>=λo=>jP f xs>>=λr=>.ok (oc o r)
variable (Κ:List D)(Φ:List Fn)
mutual
def aG:C->Rho->Res GD
 |.var i,ρ=>Ae ρ[i]?
 |.bK,_=>.ok (.fr,.none)
 |.bl b,_=>.ok (.fr,.bool b)
 |.int i,_=>.ok (.fr,.int i)
 |.str x,_=>.ok (.fr,.str x)
 |.fG b _,_=>.ok (.fr,.bool b)
 |.lset a,ρ=>aG a ρ>>=λx=>uU x.2>>=λd=>.ok (.fr,d)
 |.glob k _,_=>match Κ[k]? with|some d=>if imm d then .ok (.fr,d)else .no|none=>.no
 |.bin op a b,ρ=>aG a ρ>>=λx=>aG b ρ>>=λy=>cB op x.2 y.2>>=λd=>.ok (gN d (cI [x,y]),d)
 |.cmp op a b,ρ=>aG a ρ>>=λx=>aG b ρ>>=λy=>cmpD op x.2 y.2>>=λb=>.ok (.fr,.bool b)
 |.lO ng a,ρ=>aG a ρ>>=λx=>.ok (.fr,.bool (match x.2 with|.none=>!ng|_=>ng))
 |.and a b,ρ=>aG a ρ>>=λx=>match x.2 with|.bool c=>if c then aG b ρ else .ok (.fr,.bool Z6)|_=>.no
 |.or a b,ρ=>aG a ρ>>=λx=>match x.2 with|.bool c=>if c then .ok (.fr,.bool Z7)else aG b ρ|_=>.no
 |.not a,ρ=>aG a ρ>>=λx=>iH x.2>>=λc=>.ok (.fr,.bool (!c))
 |.rP c a b,ρ=>dX c ρ>>=λk=>if k then aG a ρ else aG b ρ
 |.tup xs,ρ=>cS xs ρ>>=λys=>.ok (gJ (.tuple (ys.map (·.2))) (cI ys),.tuple (ys.map (·.2)))
 |.lst xs,ρ=>cS xs ρ>>=λys=>.ok (cI ys,.list (ys.map (·.2)))
 |.rep xs b,ρ=>cS xs ρ>>=λys=>aG b ρ>>=λn=>lP ys n.2
 |.iG,_=>.ok (.fr,.dict [])
 |.ix a b,ρ=>aG a ρ>>=λx=>aG b ρ>>=λy=>iJ x.2 y.2>>=λd=>.ok (gJ d x.1,d)
 |.sl a lo hi,ρ=>aG a ρ>>=λx=>rT lo ρ>>=λl=>rT hi ρ>>=λh=>oA x.2 l h>>=λd=>.ok (gN d (cI [x]),d)
 |.call k _ args,ρ=>cS args ρ>>=λys=>match Φ[k]? with|some m=>m (ys.map (·.2))>>=λr=>.ok (gJ r.2 (fO r.1),r.2)|none=>.no
 |.bi f args,ρ=>cS args ρ>>=λys=>gO f (ys.map (·.2))>>=λd=>.ok (gJ d .al,d)
 |.eF f a,ρ=>CP a ρ>>=λw=>aggD f w.2.1 w.2.2>>=λd=>.ok (gJ d (if imms w.2.2 then .fr else agG w.1),d)
 |.iY a ts,ρ=>aG a ρ>>=λx=>.ok (.fr,.bool (ts.any λT=>jN (gP x.2) T))
 |.mt m o args,ρ=>aG o ρ>>=λx=>cS args ρ>>=λys=>mtD m x.2 (ys.map (·.2))>>=λd=>.ok (gJ d .al,d)
 |.sortI i,ρ=>match ρ[i]? with
  |some (Z9 (_,.dict es))=>if bV es&&lM (es.map ent)&&decide (es.length<64)then .ok (.fr,.list (z1b (es.map ent)))else .no
  |_=>.no
 |.comp nt js _ tg it cond elt,ρ=>evW it ρ>>=λw=>jP (λx=>cZ tg (gJ x w.1,x) (bp nt Z8++js.map λj=>iI (ρ.getD j Z8))>>=λρ1=>dX cond ρ1>>=λk=>if k then aG elt ρ1>>=λy=>.ok (Z9 y)else .ok Z8) w.2>>=λys=>.ok (qA ys,.list (ys.map (·.2)))
 |_,_=>.no
def dX:C->Rho->Res Bool
 |.and a b,ρ=>dX a ρ>>=λc=>if c then dX b ρ else .ok Z6
 |.or a b,ρ=>dX a ρ>>=λc=>if c then .ok Z7 else dX b ρ
 |.not a,ρ=>dX a ρ>>=λc=>.ok (!c)
 |.nil,_=>.ok Z7
 |.tv a,ρ=>aG a ρ>>=λx=>iH x.2
 |_,_=>.no
def cS:C->Rho->Res (List GD)
 |.nil,_=>.ok []
 |.cons a r,ρ=>aG a ρ>>=λx=>cS r ρ>>=λxs=>.ok (x::xs)
 |_,_=>.no
def rT:C->Rho->Res (Option Int)
 |.nil,_=>.ok Z8
 |.tv a,ρ=>aG a ρ>>=λx=>rR x.2
 |_,_=>.no
def CP:C->Rho->Res (G×Bool×List D)
 |.tv a,ρ=>aG a ρ>>=λx=>z4n x.2>>=λp=>.ok (x.1,p)
 |_,_=>.no
def evW:C->Rho->Res (G×List D)
 |.gM args,ρ=>cS args ρ>>=λys=>jO (ys.map (·.2))>>=λxs=>.ok (.fr,xs)
 |.tv a,ρ=>aG a ρ>>=λx=>z53 x.2>>=λxs=>.ok (x.1,xs)
 |.zip a b,ρ=>aG a ρ>>=λx=>aG b ρ>>=λy=>seqR x.2>>=λxs=>seqR y.2>>=λys=>.ok (.al,zipD xs ys)
 |_,_=>.no
end
def oE:Res Out->(Rho->Res Out)->Res Out
 |.ok (.nx ρ),k=>k ρ
 |r,_=>r
def dA (f:D->Rho->Res Out):List D->Rho->Res Out
 | [],ρ=>.ok (.nx ρ)
 |x::xs,ρ=>match f x ρ with
  |.ok (.nx ρ')=>dA f xs ρ'
  |.ok (.rt g d)=>.ok (.rt g d)
  |.exc e=>.exc e
  |.no=>.no
def xU (c:Rho->Res Bool)(f:Rho->Res Out):Nat->Rho->Res Out
 |0,_=>.no
 |n+1,ρ=>c ρ>>=λk=>if k then(match f ρ with
  |.ok (.nx ρ')=>xU c f n ρ'
  |.ok (.rt g d)=>.ok (.rt g d)
  |.exc e=>.exc e
  |.no=>.no)else .ok (.nx ρ)
def rU (xs:List D)(ys:List GD):Res (List D):=match ys with
 | [y]=>(match y.2 with
  |.list zs=>if okIn y&&decide (xs.length+zs.length<=aU)then .ok (xs++zs)else .no
  |_=>.no)
 |_=>.no
def jQ (m:String)(xs:List D)(ys:List GD):Res (List D):=
 if m="append"then(match ys with| [y]=>if okIn y&&decide (xs.length<aU)then .ok (xs++[y.2])else .no|_=>.no)
 else if m="extend"then rU xs ys
 else .no
def jR (ρ:Rho)(i:Nat):Bool:=match ρ[i]? with
 |some (Z9 (.fr,_))=>Z7
 |_=>Z6
def Ag (i:Nat)(ρ:Rho):Res (G×List D×Rho):=match ρ[i]? with
 |some (Z9 (.fr,d))=>z53 d>>=λxs=>.ok (.al,xs,ρ.set i (Z9 (.al,d)))
 |_=>.no
def CQ:Option GD->Option GD
 |some (.fr,.list xs)=>Z9 (.al,.list xs)
 |s=>s
def jS (x:GD)(ρ:Rho):Res (G×List D×Rho):=match x.2 with
 |.list xs=>if imms xs then .ok (.al,xs,ρ.map CQ)else .no
 |_=>.no
def rV (x:GD):Bool:=match x.2 with
 |.list _=>!(x.1==.al)
 |d=>!(x.1==.al)||imm d
def jT (ys:List GD)(ρ:Rho):Res (G×List D×Rho):=match ys with
 | [x,y]=>if rV x&&rV y then seqR x.2>>=λxs=>seqR y.2>>=λzs=>.ok (.al,zipD xs zs,ρ)else .no
 |_=>.no
def fQ (it:C)(ρ:Rho):Bool:=match evW Κ Φ it ρ with
 |.ok w=>w.1==.al
 |_=>Z6
def mQ (it:C)(ρ:Rho):Res (G×List D×Rho):=evW Κ Φ it ρ>>=λw=>if w.1==.al then .no else .ok (w.1,w.2,ρ)
def evF (it:C)(ρ:Rho):Res (G×List D×Rho):=match it with
 |.tv (.var i)=>if jR ρ i then Ag i ρ else if fQ Κ Φ it ρ then aG Κ Φ (.var i) ρ>>=λx=>jS x ρ else mQ Κ Φ it ρ
 |.tv a=>if fQ Κ Φ it ρ then aG Κ Φ a ρ>>=λx=>jS x ρ else mQ Κ Φ it ρ
 |.zip a b=>cS Κ Φ (.cons a (.cons b .nil)) ρ>>=λys=>jT ys ρ
 |it=>mQ Κ Φ it ρ
def excOf:Res GD->Option Str
 |.exc (.str c)=>Z9 c
 |_=>Z8
def aI:S->Rho->Res Out
 |.nil,ρ=>.ok (.nx ρ)
 |.seq a b,ρ=>oE (aI a ρ) (aI b)
 |.asg (.nm i) e,ρ=>aG Κ Φ e ρ>>=λx=>.ok (.nx (ρ.set i (Z9 (z1l x))))
 |.asg t e,ρ=>aG Κ Φ e ρ>>=λx=>cZ t x ρ>>=λρ'=>.ok (.nx ρ')
 |.eD i k v,ρ=>aG Κ Φ v ρ>>=λy=>aG Κ Φ k ρ>>=λx=>match ρ[i]? with
  |some (Z9 (.fr,.dict es))=>if jK x.2&&okIn y&&decide (es.length<aU)then .ok (.nx ((ρ.set i (Z9 (.fr,.dict (dput es x.2 y.2)))).map dW))else .no
  |some (Z9 (.fr,.list xs))=>(match x.2 with
   |.int j=>if okIn y then(match iT xs.length j with|some n=>.ok (.nx ((ρ.set i (Z9 (.fr,.list (xs.set n y.2)))).map dW))|none=>.no)else .no
   |_=>.no)
  |_=>.no
 |.mut m i args,ρ=>cS Κ Φ args ρ>>=λys=>match ρ[i]? with
  |some (Z9 (.fr,.list xs))=>jQ m xs ys>>=λuV=>.ok (.nx ((ρ.set i (Z9 (.fr,.list uV))).map dW))
  |_=>.no
 |.drop e,ρ=>aG Κ Φ e ρ>>=λ_=>.ok (.nx ρ)
 |.ret e,ρ=>match e with
  |.var i=>match ρ[i]? with
   |some (Z9 (g,d))=>.ok (.rt (if imm d then .fr else fO g) d)
   |_=>.no
  |e=>aG Κ Φ e ρ>>=λx=>.ok (.rt (fO x.1) x.2)
 |.bP c a b,ρ=>dX Κ Φ c ρ>>=λk=>if k then aI a ρ else aI b ρ
 |.aX t it b,ρ=>evF Κ Φ it ρ>>=λw=>dA (λx ρ1=>cZ t (gJ x w.1,x) ρ1>>=λcK=>aI b cK) w.2.1 w.2.2
 |.wh n c b,ρ=>xU (dX Κ Φ c) (aI b) n ρ
 |.uT s,ρ=>if noOwn ρ then aI s (ρ.map settle)else aI s (ρ.map cV)
 |.pZ _,_=>.no
mutual
def mR:C->Rho->Option Str
 |.call k _ args,ρ=>match cS Κ Φ args ρ with
  |.ok ys=>(match Φ[k]? with|some m=>excOf (m (ys.map (·.2)))|none=>Z8)
  |_=>qD args ρ
 |_,_=>Z8
def qD:C->Rho->Option Str
 |.cons a r,ρ=>match aG Κ Φ a ρ with
  |.ok _=>qD r ρ
  |_=>mR a ρ
 |_,_=>Z8
end
def uW:C->Rho->Option Str
 |.not a,ρ=>uW a ρ
 |.tv a,ρ=>mR Κ Φ a ρ
 |_,_=>Z8
def lQ (f:D->Rho->Res Out)(g:D->Rho->Option Str):List D->Rho->Option Str
 | [],_=>Z8
 |x::xs,ρ=>match f x ρ with
  |.ok (.nx ρ')=>lQ f g xs ρ'
  |.ok _=>Z8
  |_=>g x ρ
def kR:S->Rho->Option Str
 |.pZ c,_=>Z9 c
 |.seq a b,ρ=>match aI Κ Φ a ρ with
  |.ok (.nx ρ')=>kR b ρ'
  |.ok _=>Z8
  |_=>kR a ρ
 |.bP c a b,ρ=>match dX Κ Φ c ρ with
  |.ok k=>if k then kR a ρ else kR b ρ
  |_=>uW Κ Φ c ρ
 |.drop e,ρ=>mR Κ Φ e ρ
 |.ret e,ρ=>mR Κ Φ e ρ
 |.asg (.nm _) e,ρ=>mR Κ Φ e ρ
 |.aX t it b,ρ=>match evF Κ Φ it ρ with
  |.ok w=>lQ (λx ρ1=>cZ t (gJ x w.1,x) ρ1>>=λcK=>aI Κ Φ b cK) (λx ρ1=>match cZ t (gJ x w.1,x) ρ1 with|.ok cK=>kR b cK|_=>Z8) w.2.1 w.2.2
  |_=>Z8
 |_,_=>Z8
def aP (n:Nat)(s:S)(ds:List D):Res GD:=match aI Κ Φ s (ds.map (λd=>Z9 (.od,d))++bp (n-ds.length) Z8)with
 |.ok (.nx _)=>.ok (.fr,.none)
 |.ok (.rt g d)=>.ok (g,d)
 |_=>match kR Κ Φ s (ds.map (λd=>Z9 (.od,d))++bp (n-ds.length) Z8)with
  |some c=>.exc (.str c)
  |none=>.no
end
open PySem.Spec PyProof.Rows L2
def kD:Key->D
 |.inl i=>.int i
 |.inr x=>.str x
def keyOk:Key->Prop
 |.inl _=>True
 |.inr x=>Z3 x=Z7
def KL (K:Z5)(a:Addr)(xs:List V):Prop:=∃(o:Obj) (its:Array Value) (n:Nat),K.lookup a=Z9 o/\o.cls=.type "list"/\o.dict=Z8/\o.data=.seq its n/\its.size<=bj/\Vals xs its.toList
abbrev Ad:=Option Addr
def FL (K:Z5)(H:Hp)(a:Addr)(xs:List V):Prop:=(∃o,H a=Z9 (.eU o (.lst xs)))\/KL K a xs
def nw (H:Hp):Ad->Prop
 |some a=>H a=Z8
 |none=>False
section
variable (K:Z5)(H:Hp)(B:Ad->Prop)
mutual
def Rep:V->ak->Prop
 |v,.none=>v=.bK
 |v,.bool b=>v=.bl b
 |v,.int i=>v=.int i
 |v,.str x=>v=.str x/\Z3 x=Z7
 |v,.tuple ds=>∃a vs,v=.ref a/\cA K H a vs/\Reps vs ds
 |v,.list ds=>∃a vs,v=.ref a/\((H a=Z9 (.lst vs)/\B (Z9 a))\/(FL K H a vs/\B Z8))/\Reps vs ds
 |v,.dict es=>∃a kvs,v=.ref a/\H a=Z9 (.dK kvs)/\B (Z9 a)/\bC kvs es
def Reps:List V->List ak->Prop
 |vs,[]=>vs=[]
 |vs,d::ds=>∃v r,vs=v::r/\Rep v d/\Reps r ds
def bC:List (Key×V)->List (ak×ak)->Prop
 |kvs,[]=>kvs=[]
 |kvs,(kd,d)::es=>∃k v r,kvs=(k,v)::r/\kd=kD k/\keyOk k/\Rep v d/\bC r es
end
end
def Fix:HO->Prop
 |.tup _=>True
 |.eU _ (.lst _)=>True
 |.eU _ (.tup _)=>True
 |_=>False
section
variable {K:Z5}{H H':Hp}{B B':Ad->Prop}
theorem FL.keep (b:∀a o,H a=Z9 o->(B (Z9 a)\/Fix o)->H' a=Z9 o)(r:FL K H a c):FL K H' a c:=by
 rcases r with⟨o,r⟩|r
 .exact .inl ⟨o,b a _ r (.inr True.intro)⟩
 .exact .inr r
theorem _root_.L2.cA.keep (b:∀a o,H a=Z9 o->(B (Z9 a)\/Fix o)->H' a=Z9 o)(r:cA K H a c):cA K H' a c:=by
 rcases r with(r|⟨o,r⟩)|r
 .exact .inl (.inl (b a _ r (.inr True.intro)))
 .exact .inl (.inr ⟨o,b a _ r (.inr True.intro)⟩)
 .exact .inr r
mutual
theorem Rep.keep (hH:∀a o,H a=Z9 o->(B (Z9 a)\/Fix o)->H' a=Z9 o)(hB:∀a,B a->B' a):∀{v:V} (d:ak),Rep K H B v d->Rep K H' B' v d
 |v,.none,r=>r
 |v,.bool b,r=>r
 |v,.int i,r=>r
 |v,.str x,r=>r
 |v,.tuple ds,r=>by obtain⟨a,vs,e,h,q⟩:=r;exact⟨a,vs,e,h.keep hH,Reps.keep hH hB ds q⟩
 |v,.list ds,r=>by
  obtain⟨a,vs,e,h,q⟩:=r;refine⟨a,vs,e,?_,Reps.keep hH hB ds q⟩;rcases h with⟨h,b⟩|h
  .exact .inl ⟨hH a _ h (.inl b),hB _ b⟩
  .exact .inr ⟨FL.keep hH h.1,hB _ h.2⟩
 |v,.dict es,r=>by obtain⟨a,kvs,e,h,b,q⟩:=r;exact⟨a,kvs,e,hH a _ h (.inl b),hB _ b,bC.keep hH hB es q⟩
theorem Reps.keep (hH:∀a o,H a=Z9 o->(B (Z9 a)\/Fix o)->H' a=Z9 o)(hB:∀a,B a->B' a):∀{vs:List V} (ds:List ak),Reps K H B vs ds->Reps K H' B' vs ds
 |vs,[],r=>r
 |vs,d::ds,r=>by obtain⟨v,t,e,h,q⟩:=r;exact⟨v,t,e,Rep.keep hH hB d h,Reps.keep hH hB ds q⟩
theorem bC.keep (hH:∀a o,H a=Z9 o->(B (Z9 a)\/Fix o)->H' a=Z9 o)(hB:∀a,B a->B' a):∀{kvs:List (Key×V)} (es:List (ak×ak)),bC K H B kvs es->bC K H' B' kvs es
 |kvs,[],r=>r
 |kvs,(kd,d)::es,r=>by obtain⟨k,v,t,e,e2,ok,h,q⟩:=r;exact⟨k,v,t,e,e2,ok,Rep.keep hH hB d h,bC.keep hH hB es q⟩
end
theorem Rep.same (s:Same H H')(b:∀a,B a->B' a)(r:Rep K H B v d):Rep K H' B' v d:=Rep.keep (λa o e _=>s a o e) b d r
theorem Reps.same (s:Same H H')(b:∀a,B a->B' a)(r:Reps K H B c ds):Reps K H' B' c ds:=Reps.keep (λa o e _=>s a o e) b ds r
theorem bC.same (s:Same H H')(b:∀a,B a->B' a)(r:bC K H B c ds):bC K H' B' c ds:=bC.keep (λa o e _=>s a o e) b ds r
theorem Rep.weak (b:∀a,B a->B' a)(r:Rep K H B v d):Rep K H B' v d:=r.same (λ_ _ e=>e) b
theorem Reps.weak (b:∀a,B a->B' a)(r:Reps K H B v d):Reps K H B' v d:=r.same (λ_ _ e=>e) b
mutual
theorem Rep.bG:∀{v:V} (d:ak),imm d=Z7->Rep K H B v d->Rep K H B' v d
 |v,.none,_,r=>r
 |v,.bool b,_,r=>r
 |v,.int i,_,r=>r
 |v,.str x,_,r=>r
 |v,.tuple ds,i,r=>by obtain⟨a,vs,e,h,q⟩:=r;exact⟨a,vs,e,h,Reps.bG ds (i) q⟩
 |v,.list ds,i,r=>by cases(show Z6=Z7 from i)
 |v,.dict es,i,r=>by cases(show Z6=Z7 from i)
theorem Reps.bG:∀{vs:List V} (ds:List ak),imms ds=Z7->Reps K H B vs ds->Reps K H B' vs ds
 |vs,[],_,r=>r
 |vs,d::ds,i,r=>by have i:=b6.mp (show(imm d&&imms ds)=Z7 from i);obtain⟨v,t,e,h,q⟩:=r;exact⟨v,t,e,Rep.bG d i.1 h,Reps.bG ds i.2 q⟩
end
mutual
theorem Rep.jU (hH:∀a o,H a=Z9 o->Fix o->H' a=Z9 o):∀{v:V} (d:ak),imm d=Z7->Rep K H B v d->Rep K H' B' v d
 |v,.none,_,r=>r
 |v,.bool b,_,r=>r
 |v,.int i,_,r=>r
 |v,.str x,_,r=>r
 |v,.tuple ds,i,r=>by obtain⟨a,vs,e,h,q⟩:=r;exact⟨a,vs,e,h.keep (B:=λ_=>False) (λa o e f=>hH a o e (f.resolve_left id)),Reps.jU hH ds (i) q⟩
 |v,.list ds,i,r=>by cases(show Z6=Z7 from i)
 |v,.dict es,i,r=>by cases(show Z6=Z7 from i)
theorem Reps.jU (hH:∀a o,H a=Z9 o->Fix o->H' a=Z9 o):∀{vs:List V} (ds:List ak),imms ds=Z7->Reps K H B vs ds->Reps K H' B' vs ds
 |vs,[],_,r=>r
 |vs,d::ds,i,r=>by have i:=b6.mp (show(imm d&&imms ds)=Z7 from i);obtain⟨v,t,e,h,q⟩:=r;exact⟨v,t,e,Rep.jU hH d i.1 h,Reps.jU hH ds i.2 q⟩
end
theorem Reps.length:∀{vs:List V} {a:List D},Reps K H B vs a->vs.length=a.length
 |vs,[],r=>by have e:vs=[]:=r;subst e;rfl
 |vs,d::a,r=>by obtain⟨v,t,rfl,h,q⟩:=r;rw[a8,a8,q.length]
theorem Reps.get:∀{vs:List V} {ds:List D} {i:Nat} {d:D},Reps K H B vs ds->ds[i]?=Z9 d->∃v,vs[i]?=Z9 v/\Rep K H B v d
 |vs,[],i,d,r,e=>by simp at e
 |vs,d0::ds,0,d,r,e=>by
  obtain⟨v,t,rfl,h,q⟩:=r;have:d0=d:=by simpa using e
  subst this;exact⟨v,rfl,h⟩
 |vs,d0::ds,i+1,d,r,e=>by obtain⟨v,t,rfl,h,q⟩:=r;obtain⟨u,h1,h2⟩:=q.get (by simpa using e);exact⟨u,by simpa using h1,h2⟩
theorem Reps.lR:∀{a:List V} {b:List D} {i:Nat} {v:V},Reps K H B a b->a[i]?=Z9 v->∃d,b[i]?=Z9 d/\Rep K H B v d
 |a,[],i,v,r,e=>by have c:a=[]:=r;subst c;simp at e
 |a,d0::b,0,v,r,e=>by
  obtain⟨u,t,rfl,h,q⟩:=r;have:u=v:=by simpa using e
  subst this;exact⟨d0,rfl,h⟩
 |a,d0::b,i+1,v,r,e=>by obtain⟨u,t,rfl,h,q⟩:=r;obtain⟨d,f,g⟩:=q.lR (by simpa using e);exact⟨d,by simpa using f,g⟩
theorem Reps.cons {v:V}{d:D}{a:List V}{ds:List D}(h:Rep K H B v d)(r:Reps K H B a ds):Reps K H B (v::a) (d::ds):=⟨v,a,rfl,h,r⟩
theorem Reps.append:∀{a b:List V} {c es:List D},Reps K H B a c->Reps K H B b es->Reps K H B (a++b) (c++es)
 |a,b,[],es,r,q=>by have e:a=[]:=r;subst e;exact q
 |a,b,d::c,es,r,q=>by obtain⟨v,t,rfl,h,p⟩:=r;exact⟨v,t++b,rfl,h,p.append q⟩
theorem Reps.take:∀{a:List V} {b:List D} n,Reps K H B a b->Reps K H B (a.take n) (b.take n)
 |a,b,0,r=>by rw[List.take_zero];exact rfl
 |a,[],n+1,r=>by have e:a=[]:=r;subst e;exact rfl
 |a,d::b,n+1,r=>by obtain⟨v,t,rfl,h,p⟩:=r;exact⟨v,t.take n,rfl,h,p.take n⟩
theorem Reps.drop:∀{a:List V} {b:List D} n,Reps K H B a b->Reps K H B (a.drop n) (b.drop n)
 |a,b,0,r=>r
 |a,[],n+1,r=>by have e:a=[]:=r;subst e;exact rfl
 |a,d::b,n+1,r=>by obtain⟨v,t,rfl,h,p⟩:=r;exact p.drop n
theorem Reps.set (h:Rep K H B v d):∀{a:List V} {b:List D} n,Reps K H B a b->Reps K H B (a.set n v) (b.set n d)
 |a,[],n,r=>by have e:a=[]:=r;subst e;exact rfl
 |a,d::b,0,r=>by obtain⟨u,t,rfl,_,p⟩:=r;exact⟨_,_,rfl,h,p⟩
 |a,d::b,n+1,r=>by obtain⟨u,t,rfl,h0,p⟩:=r;exact⟨_,_,rfl,h0,p.set h n⟩
mutual
theorem Rep.there:∀{v:V} (d:ak),Rep K H B v d->Rep K H (λa=>B a/\¬nw H a) v d
 |v,.none,r=>r
 |v,.bool b,r=>r
 |v,.int i,r=>r
 |v,.str x,r=>r
 |v,.tuple ds,r=>by obtain⟨a,vs,e,h,q⟩:=r;exact⟨a,vs,e,h,Reps.there ds q⟩
 |v,.list ds,r=>by
  obtain⟨a,vs,e,h,q⟩:=r;refine⟨a,vs,e,?_,Reps.there ds q⟩;rcases h with⟨h,b⟩|h
  .refine .inl ⟨h,b,λz=>?_⟩;have z':H a=none:=z;rw[h]at z';cases z'
  .exact .inr ⟨h.1,h.2,λz=>z⟩
 |v,.dict es,r=>by obtain⟨a,kvs,e,h,b,q⟩:=r;exact⟨a,kvs,e,h,⟨b,λz=>by have z':H a=none:=z;rw[h]at z';cases z'⟩,bC.there es q⟩
theorem Reps.there:∀{vs:List V} (ds:List ak),Reps K H B vs ds->Reps K H (λa=>B a/\¬nw H a) vs ds
 |vs,[],r=>r
 |vs,d::ds,r=>by obtain⟨v,t,e,h,q⟩:=r;exact⟨v,t,e,Rep.there d h,Reps.there ds q⟩
theorem bC.there:∀{kvs:List (Key×V)} (es:List (ak×ak)),bC K H B kvs es->bC K H (λa=>B a/\¬nw H a) kvs es
 |kvs,[],r=>r
 |kvs,(kd,d)::es,r=>by obtain⟨k,v,t,e,e2,ok,h,q⟩:=r;exact⟨k,v,t,e,e2,ok,Rep.there d h,bC.there es q⟩
end
end
structure Fm where
 H0:Hp
 V:Addr->Prop
 O:Addr->Option Nat
 z:Prop
def Bin (F:Fm):Ad->Prop
 |some a=>F.O a=Z8/\F.H0 a=Z8/\F.V a
 |none=>False
def bM (F:Fm):Ad->Prop
 |some a=>F.V a
 |none=>F.z
def eX (F:Fm):Ad->Prop
 |some a=>F.H0 a≠Z8/\F.V a
 |none=>F.z
def Slot (K:Z5)(F:Fm)(H:Hp)(i:Nat):G->V->D->Prop
 |.fr,v,d=>∃p,v=.ref p/\F.O p=Z9 i/\((∃vs ds,d=.list ds/\H p=Z9 (.lst vs)/\Reps K H (Bin F) vs ds)\/(∃kvs es,d=.dict es/\H p=Z9 (.dK kvs)/\bC K H (Bin F) kvs es))
 |.od,v,d=>Rep K H (eX F) v d
 |.al,v,d=>Rep K H (bM F) v d
 |.nu,v,d=>Rep K H (Bin F) v d
structure StOk (K:Z5)(F:Fm)(H:Hp)(σ:L2.St)(ρ:Rho):Prop where
 ext:Same F.H0 H
 aM:∀a,H a=Z8->F.V a
 own:∀a i,F.O a=Z9 i->F.H0 a=Z8/\F.V a/\((∃xs,H a=Z9 (.lst xs))\/∃kvs,H a=Z9 (.dK kvs))
 len:σ.length=ρ.length
 sl:∀i g d,ρ[i]?=Z9 (Z9 (g,d))->∃v,σ[i]?=Z9 (Z9 v)/\Slot K F H i g v d
def BG (F:Fm)(H:Hp):G->Ad->Prop
 |.fr=>nw H
 |.od=>eX F
 |.al=>bM F
 |.nu=>λa=>nw H a\/Bin F a
section
variable {K:Z5}{F:Fm}{H H':Hp}{σ:L2.St}{ρ:Rho}
theorem Slot.same (s:Same H H')(h:Slot K F H i g v d):Slot K F H' i g v d:=by
 cases g with
 |fr=>
  obtain⟨p,e,o,h⟩:=h;refine⟨p,e,o,?_⟩;rcases h with⟨a,c,f,j,r⟩|⟨a,c,f,j,r⟩
  .exact .inl ⟨a,c,f,s _ _ j,r.same s λ_ b=>b⟩
  .exact .inr ⟨a,c,f,s _ _ j,r.same s λ_ b=>b⟩
 |od=>exact Rep.same s (λ_ b=>b) h
 |al=>exact Rep.same s (λ_ b=>b) h
 |nu=>exact Rep.same s (λ_ b=>b) h
theorem _root_.L2.Same.none (s:Same H H')(h:H' a=Z8):H a=none:=by
 cases e:H a with
 |none=>rfl
 |some o=>rw[s a o e]at h;cases h
theorem StOk.same (s:Same H H')(h:StOk K F H σ ρ):StOk K F H' σ ρ where
 ext:=λa o e=>s a o (h.ext a o e)
 aM:=λa e=>h.aM a (s.none e)
 own:=λa i e=>by
  obtain⟨c,j,b⟩:=h.own a i e;refine⟨c,j,?_⟩;rcases b with⟨f,b⟩|⟨f,b⟩
  .exact .inl ⟨f,s _ _ b⟩
  .exact .inr ⟨f,s _ _ b⟩
 len:=h.len
 sl:=λi g d e=>by obtain⟨v,c,b⟩:=h.sl i g d e;exact⟨v,c,b.same s⟩
theorem nw.back (s:Same H H')(h:nw H' a):nw H a:=by
 cases a with
 |none=>exact h
 |some a=>exact s.none h
theorem nw.aM (b:∀a,H a=Z8->F.V a)(h:nw H a):bM F a:=by
 cases a with
 |none=>exact h.elim
 |some a=>exact b a h
theorem eX.aM (h:eX F a):bM F a:=by
 cases a with
 |none=>exact h
 |some a=>exact h.2
theorem Bin.aM (h:Bin F a):bM F a:=by
 cases a with
 |none=>exact h.elim
 |some a=>exact h.2.2
theorem BG.back (s:Same H H')(h:BG F H' g a):BG F H g a:=by
 cases g with
 |fr=>exact nw.back s h
 |od=>exact h
 |al=>exact h
 |nu=>exact h.elim (λh=>.inl (nw.back s h)) .inr
theorem BG.aM (b:∀a,H a=Z8->F.V a)(h:BG F H g a):bM F a:=by
 cases g with
 |fr=>exact nw.aM b h
 |od=>exact eX.aM h
 |al=>exact h
 |nu=>exact h.elim (nw.aM b) Bin.aM
theorem Slot.rep (so:∀a i,F.O a=Z9 i->F.V a)(h:Slot K F H i g v d):Rep K H (bM F) v d:=by
 cases g with
 |fr=>
  obtain⟨p,e,o,h⟩:=h;rcases h with⟨c,j,rfl,f,r⟩|⟨c,j,rfl,f,r⟩
  .exact⟨p,c,e,.inl ⟨f,so _ _ o⟩,r.weak λ_ b=>b.aM⟩
  .exact⟨p,c,e,f,so _ _ o,bC.same (λ_ _ e=>e) (λ_ b=>b.aM) r⟩
 |od=>exact Rep.weak (λ_ b=>b.aM) h
 |al=>exact h
 |nu=>exact Rep.weak (λ_ b=>Bin.aM b) h
theorem StOk.iK (h:StOk K F H σ ρ):∀a i,F.O a=Z9 i->F.V a:=λa i e=>(h.own a i e).2.1
theorem StOk.rd (h:StOk K F H σ ρ){i:Nat}(e:Ae ρ[i]?=.ok x):∃v,σ[i]?=Z9 (Z9 v)/\Rep K H (BG F H x.1) v x.2:=by
 cases c:ρ[i]? with
 |none=>rw[c]at e;cases e
 |some o=>
  cases o with
  |none=>rw[c]at e;cases e
  |some gd=>
   obtain⟨g,d⟩:=gd;rw[c]at e;obtain⟨v,j,a⟩:=h.sl i g d c;have k:=(Res.ok.inj e).symm;subst k;refine⟨v,j,?_⟩;by_cases f:imm d=Z7
   .show Rep K H (BG F H (if imm d=Z7 then _ else _)) v d;exact Rep.bG d f (a.rep h.iK)
   .show Rep K H (BG F H (if imm d=Z7 then _ else _)) v d;rw[xq f];cases g with
    |fr=>exact a.rep h.iK
    |od=>exact a
    |al=>exact a
    |nu=>exact Rep.weak (λ_ b=>.inr b) a
end
structure Gm where
 N:List Str
 sc:Scope
 blk:Bool:=Z6
 free:List Str
 fns:List (Str×Nat)
 cst:List Str
 cm:Bool:=Z7
 xc:Option (Str×Str):=Z8
 sub:List (Str×Str×Bool):=[]
 rs:List Str:=[]
 lS:List (Str×Str):=[]
section
variable (Γ:Gm)
def gQ (i:Nat)(x:Str):Bool:=(Γ.N[i]?==Z9 x)&&(Γ.sc.names.lookup x==Z9 .local||Γ.sc.names.lookup x==Z9 .cell||Γ.sc.names.lookup x==Z9 .free)&& !(x==("__debug__":Str))&& !(x==("__classdict__":Str))
def mS (x:Str):Bool:=(Γ.sc.names.lookup x==Z9 .globalImplicit)&& !(x==("__debug__":Str))
def dR (x:Str):Bool:=mS Γ x&&Γ.free.contains x&& !(x==("__name__":Str))
def lT (i:Nat)(x:Str):Bool:=(Γ.N[i]?==Z9 x)&&(Γ.sc.names.lookup x==Z9 .local||(!Γ.blk&&Γ.sc.names.lookup x==Z9 .cell))
end
def tgIx:Tg->List Nat
 |.nm i=>[i]
 |.tp is=>is
def CS (scope sc:Scope):Scope:={scope with names:=scope.names.map λ(n,k)=>if(k==.free&&sc.kind==.function&&sc.names.lookup n==Z9 .cell)then(n,.cell)else(n,k)}
def plainT:Expr->Bool
 |.UnaryOp .Not _ _=>Z6
 |.BoolOp _ _ _=>Z6
 |.IfExp _ _ _ _=>Z6
 |.Compare _ _ _ _=>Z6
 |_=>Z7
def Im:Expr->Bool
 |.Compare _ _ _ _=>Z7
 |_=>Z6
def z69:Expr->Bool
 |.Slice _ _ _ _=>Z6
 |_=>Z7
def CT:Expr->Bool
 |.Call (.Name _ _) [] [] _=>Z6
 |_=>Z7
def Ah:Expr->Bool
 |.Set _ _ _=>Z6
 |_=>Z7
def isTup:Expr->Bool
 |.Tuple _ _ _=>Z7
 |_=>Z6
def CU:Expr->Option Str
 |.Name x _=>Z9 x
 |_=>Z8
def gR:Expr->Option Const
 |.Constant v _ _=>Z9 v
 |_=>Z8
def rW:Expr->Option (Expr×vr×Expr)
 |.BinOp l o r _=>Z9 (l,o,r)
 |_=>Z8
def CV:Expr->Option (UnaryOp×Expr)
 |.UnaryOp o x _=>Z9 (o,x)
 |_=>Z8
def Ai:Expr->Option (Expr×List CmpOp×List Expr)
 |.Compare l o r _=>Z9 (l,o,r)
 |_=>Z8
def xV:Expr->Option (BoolOp×List Expr×Pos)
 |.BoolOp o xs p=>Z9 (o,xs,p)
 |_=>Z8
def xW:Expr->Option (Expr×Expr×Expr)
 |.IfExp t x y _=>Z9 (t,x,y)
 |_=>Z8
def rX:Expr->Option (List Expr)
 |.Tuple es _ _=>Z9 es
 |_=>Z8
def rY:Expr->Option (List Expr)
 |.List es _=>Z9 es
 |_=>Z8
def Io:Expr->Option (List (Option Expr)×List Expr)
 |.Dict k v _=>Z9 (k,v)
 |_=>Z8
def oF:Expr->Option (Expr×Expr)
 |.Subscript x i _=>Z9 (x,i)
 |_=>Z8
def xX:Expr->Option (Option Expr×Option Expr×Option Expr)
 |.Slice l h s _=>Z9 (l,h,s)
 |_=>Z8
def CW:Expr->Option (Expr×List Expr×List vc×Pos)
 |.Call f es k p=>Z9 (f,es,k,p)
 |_=>Z8
def Ip:Expr->Option (Expr×Str×Pos)
 |.Attribute x n p=>Z9 (x,n,p)
 |_=>Z8
def Iq:Expr->Option (Expr×List Comprehension×Scope)
 |.ListComp el gs s _=>Z9 (el,gs,s)
 |_=>Z8
def dY {α:Type}:List α->Option α
 | [x]=>Z9 x
 |_=>Z8
def oG {α:Type}:List α->Option (α×α)
 | [x,y]=>Z9 (x,y)
 |_=>Z8
def jV (e:Expr):Option (Str×List Expr):=(CW e).bind λv=>if v.2.2.1.isEmpty then(CU v.1).map λx=>(x,v.2.1)else Z8
def xY (e:Expr):Option (Expr×Str×List Expr×Bool):=(CW e).bind λv=>if v.2.2.1.isEmpty then(Ip v.1).map λu=>(u.1,u.2.1,v.2.1,u.2.2.endLine==v.2.2.2.line)else Z8
def xZ (f g:Expr->Bool)(o:BoolOp)(p:Pos):List Expr->Bool
 |x::y::r=>f x&&(if r.isEmpty then g y else g (.BoolOp o (y::r) p))
 |_=>Z6
def x6 (n:Bool)(f:Expr->Bool):List Expr->Bool
 | []=>n
 |t::r=>r.isEmpty&&f t
def x8:C->Bool
 |.nil=>Z7
 |_=>Z6
def kS (f:Str->Bool)(e:Expr):Bool:=(CU e).any f
def CY (Γ:Gm):List Nat->List Expr->Bool
 | [],es=>es.isEmpty
 |i::is,es=>match es with|e::es=>kS (lT Γ i) e&&CY Γ is es| []=>Z6
def Aj (Γ:Gm):Tg->Expr->Bool
 |.nm i,e=>kS (lT Γ i) e
 |.tp is,e=>Γ.cm&&(rX e).any (CY Γ is)
def CZ:vr->Bool
 |.Add|.Sub|.Mult|.FloorDiv|.Mod|.Pow=>Z7
 |_=>Z6
def ze5:CmpOp->Bool
 |.Is|.IsNot|.GtE=>Z6
 |_=>Z7
def C0 (T:String):Bool:=tysB.contains T
def tyB (Γ:Gm)(T:String)(t:Expr):Bool:=kS (λx=>(x==Str.ofString T)&&dR Γ x&&C0 T) t
def rZ:List String:=["list","tuple","sorted","sum","any","dict"]
def PF:Tg->Bool
 |.nm _=>Z7
 |.tp _=>Z6
def isNm:Expr->Bool
 |.Name _ _=>Z7
 |_=>Z6
def C1:C->Expr->Bool
 |.zip _ _,e=>isTup e||isNm e
 |_,_=>Z7
mutual
def chkE (Γ:Gm):C->Expr->Bool
 |.var i,e=>kS (gQ Γ i) e
 |.bK,e=>decide (gR e=Z9 .none)
 |.bl b,e=>decide (gR e=Z9 (.bool b))
 |.int i,e=>decide (gR e=Z9 (.int i))
 |.str x,e=>decide (gR e=Z9 (.str x))&&Z3 x
 |.glob k x,e=>kS (λy=>(x==y)&&mS Γ x&&(Γ.cst[k]?==Z9 x)) e
 |.bin op a b,e=>(rW e).any λv=>decide (op=v.2.1)&&CZ op&&chkE Γ a v.1&&chkE Γ b v.2.2
 |.cmp op a b,e=>(Ai e).any λv=>decide (v.2.1=[op])&&(dY v.2.2).any λr=>ze5 op&& !(iw op r)&&chkE Γ a v.1&&chkE Γ b r
 |.lO ng a,e=>(Ai e).any λv=>decide (v.2.1=[if ng then .IsNot else .Is])&&(dY v.2.2).any λr=>decide (gR r=Z9 .none)&&chkE Γ a v.1
 |.and a b,e=>(xV e).any λv=>decide (v.1=.And)&&xZ (λx=>chkE Γ a x) (λx=>chkE Γ b x) .And v.2.2 v.2.1
 |.or a b,e=>(xV e).any λv=>decide (v.1=.Or)&&xZ (λx=>chkE Γ a x) (λx=>chkE Γ b x) .Or v.2.2 v.2.1
 |.not a,e=>(CV e).any λv=>decide (v.1=.Not)&&chkE Γ a v.2
 |.rP c a b,e=>(xW e).any λv=>dZ Γ c v.1&&chkE Γ a v.2.1&&chkE Γ b v.2.2
 |.tup xs,e=>(rX e).any λes=>decide (es.length<=1000)&&dB Γ xs es
 |.lst xs,e=>(rY e).any λes=>decide (es.length<=1000)&&dB Γ xs es
 |.rep xs b,e=>(rW e).any λv=>decide (v.2.1=.Mult)&&(rY v.1).any λes=>decide (es.length<=1000)&&dB Γ xs es&&chkE Γ b v.2.2
 |.iG,e=>(Io e).any λv=>v.1.isEmpty&&v.2.isEmpty
 |.ix a b,e=>(oF e).any λv=>z69 v.2&&chkE Γ a v.1&&chkE Γ b v.2
 |.sl a lo hi,e=>(oF e).any λv=>(xX v.2).any λs=>s.2.2.isNone&&chkE Γ a v.1&&oH Γ lo s.1&&oH Γ hi s.2.1
 |.call k f args,e=>(jV e).any λv=>(Γ.cm&&(v.1==f))&&mS Γ v.1&&(Γ.fns[k]?==Z9 (f,v.2.length))&&dB Γ args v.2&& !v.2.isEmpty
 |.lset a,e=>(jV e).any λv=>(v.1==("len":Str))&&(Γ.cm&&dR Γ v.1)&&(dY v.2).any λy=>!isStar y&&(jV y).any λu=>(u.1==("set":Str))&&dR Γ u.1&&(dY u.2).any λz=>!isStar z&&chkE Γ a z
 |.bi f args,e=>(jV e).any λv=>(v.1==Str.ofString f)&&dR Γ v.1&&((["len","max","min","int"].contains f)&&(Γ.cm||f=="int"))&&dB Γ args v.2&& !v.2.isEmpty
 |.eF f a,e=>(jV e).any λv=>(v.1==Str.ofString f)&&dR Γ v.1&&(rZ.contains f&&Γ.cm)&&(dY v.2).any λy=>!isStar y&&sA Γ a y
 |.iY a ts,e=>(jV e).any λv=>(v.1==("isinstance":Str))&&dR Γ v.1&&(oG v.2).any λy=>!isStar y.1&&chkE Γ a y.1&&(dY ts).any λT=>tyB Γ T y.2
 |.mt m o args,e=>(xY e).any λv=>((v.2.1==Str.ofString m)&& ["get","join"].contains m&&CT v.1&&v.2.2.2&&decide (v.2.2.1.length<20))&&chkE Γ o v.1&&dB Γ args v.2.2.1&& !v.2.2.1.isEmpty
 |.comp nt js N' tg it cond elt,e=>(Iq e).any λv=>(dY v.2.1).any λg=>let C2:Gm:={Γ with N:=N',sc:=CS v.2.2 Γ.sc,blk:=Z7,xc:=Z8}
  ((Γ.cm&&(g.is_async==0))&&(tgIx tg).all (λi=>decide (i<nt))&&rN Γ.N Γ.sc v.2.2 N' nt js&&Ah g.iter&&decide N'.Nodup)&&(Aj C2 tg g.target&&C1 it g.target)&&lU Γ it g.iter&&x6 (x8 cond) (λt=>dZ C2 cond t) g.ifs&&chkE C2 elt v.1
 |.sortI i,e=>(jV e).any λv=>(Γ.cm&&(v.1==("sorted":Str)))&&dR Γ v.1&&(dY v.2).any λy=>(xY y).any λm=>kS (gQ Γ i) m.1&&(m.2.1==("items":Str))&&m.2.2.1.isEmpty&&m.2.2.2
 |.fG b x,e=>(jV e).any λv=>(v.1==("isinstance":Str))&&dR Γ v.1&&(oG v.2).any λy=>Γ.xc.any λz=>kS (λn=>(n==z.1)&&(Γ.sc.names.lookup n==Z9 .local)&& !(n==("__debug__":Str))&& !(n==("__classdict__":Str))) y.1&&kS (λC=>(C==x)&&mS Γ C&&Γ.sub.contains (z.2,x,b)) y.2
 |.gM _,_=>Z6
 |.zip _ _,_=>Z6
 |.tv _,_=>Z6
 |.nil,_=>Z6
 |.cons _ _,_=>Z6
def dZ (Γ:Gm):C->Expr->Bool
 |.and a b,e=>(xV e).any λv=>decide (v.1=.And)&&xZ (λx=>dZ Γ a x) (λx=>dZ Γ b x) .And v.2.2 v.2.1
 |.or a b,e=>(xV e).any λv=>decide (v.1=.Or)&&xZ (λx=>dZ Γ a x) (λx=>dZ Γ b x) .Or v.2.2 v.2.1
 |.not a,e=>(CV e).any λv=>decide (v.1=.Not)&&dZ Γ a v.2
 |.tv a,e=>(plainT e||Im e)&&chkE Γ a e
 |_,_=>Z6
def dB (Γ:Gm):C->List Expr->Bool
 |.nil,es=>es.isEmpty
 |.cons a r,es=>match es with|e::es=>!isStar e&&chkE Γ a e&&dB Γ r es|_=>Z6
 |_,_=>Z6
def oH (Γ:Gm):C->Option Expr->Bool
 |.nil,e=>e.isNone
 |.tv a,e=>e.any λe=>chkE Γ a e
 |_,_=>Z6
def lU (Γ:Gm):C->Expr->Bool
 |.gM args,e=>(jV e).any λv=>(v.1==("range":Str))&&dR Γ v.1&&dB Γ args v.2&&(!v.2.isEmpty&&decide (v.2.length<=1))
 |.tv a,e=>Ah e&&chkE Γ a e
 |.zip a b,e=>(jV e).any λv=>(v.1==("zip":Str))&&dR Γ v.1&&(oG v.2).any λy=>(!isStar y.1&& !isStar y.2)&&chkE Γ a y.1&&chkE Γ b y.2
 |_,_=>Z6
def sA (Γ:Gm):C->Expr->Bool
 |.tv a,e=>chkE Γ a e
 |_,_=>Z6
end
def sD:C->Bool
 |_=>Z6
def x9 (Γ:Gm)(it:C)(tg ie:Expr):Bool:=C1 it tg&&lU Γ it ie
def C3:Stmt->Option (List Expr×Expr)
 |.Assign t v _=>Z9 (t,v)
 |_=>Z8
def C4:Stmt->Option Expr
 |.Expr v _=>Z9 v
 |_=>Z8
def Ir:Stmt->Option (Option Expr)
 |.Return v _=>Z9 v
 |_=>Z8
def Iu:Stmt->Option (Expr×List Stmt×List Stmt)
 |.If t A B _=>Z9 (t,A,B)
 |_=>Z8
def Iv:Stmt->Option (Expr×Expr×List Stmt×List Stmt)
 |.For t i B o _=>Z9 (t,i,B,o)
 |_=>Z8
def Iw:Stmt->Option (Expr×List Stmt×List Stmt)
 |.While t B o _=>Z9 (t,B,o)
 |_=>Z8
def C5:Stmt->Option (Str×List Expr)
 |.Raise (Z9 c) Z8 _=>jV c
 |_=>Z8
def Iy (e:Expr):Bool:=(gR e).any λk=>match k with|.str x=>Z3 x|_=>Z6
def C6:ExceptHandler->Option (Str×Str×List Stmt)
 |.ExceptHandler (Z9 (.Name x _)) (Z9 n) b _=>Z9 (x,n,b)
 |_=>Z8
def vTr:Stmt->Option (Str×List Expr×Str×Str×List Stmt)
 |.Try [.Expr c _] [h] [] [] _=>(jV c).bind λv=>(C6 h).map λu=>(v.1,v.2,u)
 |_=>Z8
mutual
def chk1 (Γ:Gm):S->Stmt->Bool
 |.asg t e,s=>(C3 s).any λu=>(dY u.1).any λx=>Aj Γ t x&& !sD e&&(PF t||(!z2a u.2&& !isTup u.2))&&chkE Γ e u.2
 |.eD i k v,s=>(C3 s).any λu=>(dY u.1).any λx=>(oF x).any λw=>kS (gQ Γ i) w.1&&z69 w.2&& !z2a u.2&&chkE Γ k w.2&&chkE Γ v u.2
 |.mut m i args,s=>(C4 s).any λc=>(xY c).any λv=>(kS (gQ Γ i) v.1&&(v.2.1==Str.ofString m)&& ["append","extend"].contains m&&v.2.2.2&&decide (v.2.2.1.length<20))&& !v.2.2.1.isEmpty&&dB Γ args v.2.2.1
 |.drop e,s=>(C4 s).any λv=>!z2a v&&chkE Γ e v
 |.ret e,s=>(Ir s).any λo=>o.any λv=>chkE Γ e v
 |.bP c a b,s=>(Iu s).any λv=>dZ Γ c v.1&&chkL Γ a v.2.1&&chkL Γ b v.2.2
 |.aX t it b,s=>Γ.cm&&(Iv s).any λv=>Aj Γ t v.1&&x9 Γ it v.1 v.2.1&&chkL Γ b v.2.2.1&&v.2.2.2.isEmpty
 |.wh _ c b,s=>(Iw s).any λv=>dZ Γ c v.1&&chkL Γ b v.2.1&&v.2.2.isEmpty
 |.uT s,st=>chk1 Γ s st
 |.pZ c,s=>(C5 s).any λv=>(v.1==c)&&mS Γ c&&Γ.rs.contains c&&Γ.cm&&(dY v.2).any Iy
 |.nil,_=>Z6
 |.seq _ _,_=>Z6
def chkL (Γ:Gm):S->List Stmt->Bool
 |.nil,l=>l.isEmpty
 |.seq a b,l=>match l with|s::r=>chk1 Γ a s&&chkL Γ b r|_=>Z6
 |_,_=>Z6
end
def tD (K:Z5)(f:Rho->Res GD):TE:=λσ H Q=>∃ρ F x,StOk K F H σ ρ/\f ρ=.ok x/\∀v H',Same H H'->Rep K H' (BG F H x.1) v x.2->Q v H'
def eA (K:Z5)(f:Rho->Res Bool):TT:=λσ H Q=>∃ρ F b,StOk K F H σ ρ/\f ρ=.ok b/\∀H',Same H H'->Q b H'
def tDO (K:Z5)(f:Rho->Res (Option Int)):TO:=λσ H Q=>∃ρ F b,StOk K F H σ ρ/\f ρ=.ok b/\∀H',Same H H'->Q b H'
def eG (K:Z5)(F:Fm)(H H':Hp):List V->List GD->Prop
 |vs,[]=>vs=[]
 |vs,x::xs=>∃v r,vs=v::r/\Rep K H' (BG F H x.1) v x.2/\eG K F H H' r xs
def tDA (K:Z5)(f:Rho->Res (List GD)):TA:=λσ H Q=>∃ρ F xs,StOk K F H σ ρ/\f ρ=.ok xs/\∀vs H',Same H H'->eG K F H H' vs xs->Q vs H'
theorem _root_.L2.PE.imp (h:PE X e t)(i:∀a H Q,c a H Q->t a H Q):PE X e c:=λb s a H Q I q=>h b s a H Q I (i a H Q q)
theorem _root_.L2.PT.imp (h:PT X e t)(i:∀a H Q,c a H Q->t a H Q):PT X e c:=λb s a H Q I q=>h b s a H Q I (i a H Q q)
theorem _root_.L2.PW.imp (h:PW X e t)(i:∀a H Q,c a H Q->t a H Q):PW X e c:=λwh b s a H Q I q=>h wh b s a H Q I (i a H Q q)
theorem _root_.L2.PA.imp (h:PA X e t)(i:∀a H Q,c a H Q->t a H Q):PA X e c:=λpos b s a H Q I q=>h pos b s a H Q I (i a H Q q)
theorem _root_.L2.PO.imp (h:PO X e t)(i:∀a H Q,c a H Q->t a H Q):PO X e c:=λb s a H Q I q=>h b s a H Q I (i a H Q q)
theorem _root_.L2.PS.imp (h:PS X e t)(i:∀D a H,c D a H->t D a H):PS X e c:=λb s a H D I q=>h b s a H D I (i D a H q)
theorem _root_.L2.PSs.imp (h:PSs X e t)(i:∀D a H,c D a H->t D a H):PSs X e c:=λb s a H D I q=>h b s a H D I (i D a H q)
section
variable {K:Z5}{F:Fm}{H H1 H':Hp}
theorem eG.back:∀{a:List V} {c:List GD},Same H H1->eG K F H1 H' a c->eG K F H H' a c
 |a,[],_,r=>r
 |a,x::c,s,r=>by obtain⟨v,t,e,h,q⟩:=r;exact⟨v,t,e,h.weak λ_ b=>b.back s,q.back s⟩
theorem eG.jW:∀{b:List V} {c:List GD},(∀x∈c,∀a,BG F H x.1 a->B a)->eG K F H H' b c->Reps K H' B b (c.map (·.2))
 |b,[],_,r=>r
 |b,x::c,d,r=>by obtain⟨v,t,e,h,q⟩:=r;exact⟨v,t,e,h.weak (d x ah),q.jW λy f=>d y (av _ f)⟩
theorem eG.gS (b:∀a,H a=Z8->F.V a)(r:eG K F H H' c d):Reps K H' (bM F) c (d.map (·.2)):=r.jW λ_ _ _ h=>h.aM b
theorem uX (f:∀a,H a=Z8->F.V a)(c:x∈d)(h:BG F H x.1 a):BG F H (cI d) a:=by
 unfold cI;by_cases e:(d.all λx=>x.1==.fr)=Z7
 .rw[xp e];have:=(a9.mp e) x c;have b:x.1=.fr:=by simpa using this
  rw[b]at h;exact h
 .rw[xq e];split
  .rename_i g;have:=(a9.mp g) x c;rcases gf.mp this with b|b
   .rw[eq_of_beq b]at h;exact .inl h
   .rw[eq_of_beq b]at h;exact h
  .exact h.aM f
theorem C7 (b:∀a,H a=Z8->F.V a)(s:Same H H1)(h:nw H1 a):BG F H (cI c) a:=by
 unfold cI;by_cases e:(c.all λx=>x.1==.fr)=Z7
 .rw[xp e];exact nw.back s h
 .rw[xq e];split
  .exact .inl (nw.back s h)
  .exact(nw.back s h).aM b
theorem qE (r:Rep K H' B v d)(h:∀a,B a->BG F H g a):Rep K H' (BG F H (gJ d g)) v d:=by
 unfold gJ;by_cases e:imm d=Z7
 .rw[xp e];exact Rep.bG d e r
 .rw[xq e];exact r.weak h
end
def Iz (K:Z5)(m:D->D->Res D):R2:=λx y H Q=>∃Bx By dx dy d,Rep K H Bx x dx/\Rep K H By y dy/\m dx dy=.ok d/\∀w H',Same H H'->Rep K H' (λa=>nw H a\/Bx a\/By a) w d->Q w H'
def oI (X:Cx)(f:Value->Value->Sem Value)(m:D->D->Res D):Prop:=OpR X f (Iz X.K m)
def C8 (K:Z5)(m:D->D->Res D):R2:=λx y H Q=>∃Bx By dx dy d,Rep K H Bx x dx/\Rep K H By y dy/\m dx dy=.ok d/\∀w H',Same H H'->Rep K H' (λa=>nw H a\/Bx a\/By a) w d->(∀ds,d=.list ds->imms ds=Z7->Rep K H' (nw H) w d)->Q w H'
def C9 (X:Cx)(f:Value->Value->Sem Value)(m:D->D->Res D):Prop:=OpR X f (C8 X.K m)
theorem _root_.L2.OpR.imp (h:OpR X f r)(i:∀x y H Q,b x y H Q->r x y H Q):OpR X f b:=λa s c H x y v u Q I d e q=>h a s c H x y v u Q I d e (i x y H Q q)
def zbu (K:Z5)(m:List D->Res D):List V->Hp->VK->Prop:=λxs H Q=>∃B ds d,Reps K H B xs ds/\m ds=.ok d/\∀w H',Same H H'->Rep K H' (λa=>nw H a\/B a) w d->Q w H'
theorem _root_.L2.CallR.imp (h:CallR X f r)(i:∀x H Q,b x H Q->r x H Q):CallR X f b:=λa s c H x v Q I d q=>h a s c H x v Q I d (i x H Q q)
theorem PH (a:Z3 x=Z7)(b:Z3 y=Z7):Z3 (x++y)=true:=by
 unfold Z3 at *
 show(x.cps++y.cps).all _=Z7;rw[Array.all_append,a,b];rfl
theorem qF:Z3 x=Z7↔∀c∈x.cps.toList,c<0x110000:=by unfold Z3;rw[<-Array.all_toList];rw[a9];exact⟨λh c a=>by simpa using h c a,λh c a=>by simpa using h c a⟩
theorem PJ (a:Z3 x=Z7)(hc:c∈x.cps.toList):Z3 ⟨#[c]⟩=true:=
 qF.mpr λd hd=>by
  have e:d=c:=by simpa using hd
  rw[e];exact qF.mp a c hc
theorem jX (h:n<=aU):n<=bj:=bo h (by rw[io];unfold aU;decide)
theorem _root_.L2.cA.rel {K:Z5}(s:Same H b)(h:cA K H a c):cA K b a c:=h.keep (B:=λ_=>True) λa o e _=>s a o e
section
variable {X:Cx}
def PL (K:Z5):R2:=λx y H Q=>∃l b xs zs,x=.ref l/\y=.ref b/\SqL K H l xs/\SqL K H b zs/\xs.length+zs.length<=bj/\∀p,H p=Z8->Q (.ref p) (upd H p (.lst (xs++zs)))
theorem PM:OpR X (iz .Add) (PL X.K):=by
 rintro k s M H x y v u Q I w z ⟨l,b,N,O,rfl,rfl,A,B,m,q⟩
 cases w;cases z;obtain⟨c,o,C,_⟩:=I.list A;obtain⟨a,p,D,_⟩:=I.list B;obtain⟨⟨E,dd,r,sl⟩,n,ho,G,_,hd⟩:=C;obtain⟨⟨t,f,g,h⟩,J,d,i,_,j⟩:=D;subst G hd i j;have e:c.toArray.size+a.toArray.size<=bj:=by rw[bn,bn,<-o.length,<-p.length];exact m
 refine qr ⟨_,ho,rfl⟩ ⟨_,d,rfl⟩ noFill_list_add seq_list_add PySem.F.slot_list_add PySem.F.entry_list_add (PySem.F.args_list_add_2 _ _) (list_addW l b c.toArray a.toArray n J dd f sl h e) ⟨ho,d,?_⟩;have L:c.toArray++a.toArray=(c++a).toArray:=by simp
 rw[L];exact⟨.ref _,_,I.lnew (o.append p) (am▸m),rfl,q _ I.fresh⟩
def PN (K:Z5):R2:=λx y H Q=>∃a b ys,x=.ref a/\y=.ref b/\cA K H a []/\cA K H b ys/\Q (.ref b) H
theorem PQ:OpR X (iz .Add) (PN X.K):=by
 rintro i s E H x y v u Q I m o ⟨l,b,G,rfl,rfl,p,r,q⟩
 cases m;cases o;obtain⟨t,w,z,_⟩:=I.tuple p;obtain⟨a,J,A,_⟩:=I.tuple r;cases w;obtain⟨⟨B,dd,j,sl⟩,ho,C,n,hd⟩:=z;obtain⟨⟨k,d,e,f⟩,c,g,D,h⟩:=A;subst C hd g h;refine qr ⟨_,ho,rfl⟩ ⟨_,c,rfl⟩ qg ug PySem.F.slot_tuple_add PySem.F.entry_tuple_add (PySem.F.args_tuple_add_2 _ _) (tuple_addW0 l b _ a.toArray n D dd d sl f (by simp)) ⟨ho,c,?_⟩;exact⟨.ref b,H,I,rfl,q⟩
variable {K:Z5}{H:Hp}{B:Ad->Prop}{v:V}
theorem lV (r:Rep K H B v (.list c)):∃a b,v=.ref a/\SqL K H a b/\Reps K H B b c:=by
 obtain⟨a,b,e,h,q⟩:=r;refine⟨a,b,e,?_,q⟩;rcases h with⟨h,_⟩|⟨h|h,_⟩
 .exact .inl (.inl h)
 .exact .inl (.inr h)
 .exact .inr h
theorem oJ (c:H p=Z8)(r:Reps K H B b d)(e:∀a,B a->B' a)(f:B' (Z9 p)):Rep K (upd H p (.lst b)) B' (.ref p) (.list d):=⟨p,b,rfl,.inl ⟨bQ,f⟩,r.same (Same.upd c) e⟩
theorem Ak (c:H p=Z8)(r:Reps K H B b d)(e:∀a,B a->f a):Rep K (upd H p (.tup b)) f (.ref p) (.tuple d):=⟨p,b,rfl,.inl (.inl bQ),r.same (Same.upd c) e⟩
theorem dS {b:Type}{a:b}(h:(Res.no:Res b)=.ok a):False:=by cases h
theorem PR:C9 X (iz .Add) (cB .Add):=by
 refine OpR.imp ((Pq.or PM).or PQ) λx y H Q h=>?_;obtain⟨u,v,w,A,d,k,l,e,q⟩:=h;cases w<;>try (exact(dS e).elim)
 all_goals cases A<;>try (exact(dS e).elim)
 case int.int i j=>cases e;have r:=k;have s:=l;subst r s;exact .inl (.inl (Px (q _ H (Same.refl H) rfl λm z=>by cases z)))
 case str.str i j=>
  have r:=k.1;have s:=l.1;subst r s;have e:(if i.length+j.length<=aU then Res.ok (Z2 (i++j))else Res.no)=Res.ok d:=e;split at e
  .rename_i hl;cases e;exact .inl (.inl (Py (jX hl) (q _ H (Same.refl H) ⟨rfl,PH k.2 l.2⟩ λm z=>by cases z)))
  .cases e
 case list.list xs ys=>
  have e:(if xs.length+ys.length<=aU then Res.ok (Z1 (xs++ys))else Res.no)=Res.ok d:=e;split at e
  .rename_i hl;cases e;obtain⟨a,t,rfl,n,c⟩:=lV k;obtain⟨b,ws,rfl,o,f⟩:=lV l;refine .inl (.inr ⟨a,b,t,ws,rfl,rfl,n,o,jX (by rw[c.length,f.length];exact hl),λp g=>q _ _ (Same.upd g) ?_ ?_⟩)
   .exact oJ g (Reps.append (c.weak λ_ z=>.inr (.inl z)) (f.weak λ_ z=>.inr (.inr z))) (λ_ z=>z) (.inl g)
   .intro m z B;cases z;exact oJ g (Reps.bG _ B (Reps.append (c.weak (B':=λa=>nw H a\/u a\/v a) λ_ z=>.inr (.inl z)) (f.weak λ_ z=>.inr (.inr z)))) (λ_ z=>z) g
  .cases e
 case tuple.tuple xs ys=>
  have e:(if xs.length+ys.length<=aU then Res.ok (PyData.tuple (xs++ys))else Res.no)=Res.ok d:=e;split at e
  .rename_i hl;cases e;obtain⟨a,t,rfl,n,c⟩:=k;obtain⟨b,ws,rfl,o,f⟩:=l;cases t with
   |nil=>
    have:xs=[]:=by have:=c.length;exact j5.mp this.symm
    subst this;exact .inr ⟨a,b,ws,rfl,rfl,n,o,q _ H (Same.refl H) ⟨b,ws,rfl,o,f.weak λ_ z=>.inr (.inr z)⟩ λm z=>by cases z⟩
   |cons C D=>
    refine .inl (.inl (.inr (.inr (.inr ⟨a,b,C::D,ws,rfl,rfl,n,o,by simp,jX (by rw[c.length,f.length];exact hl),λz=>?_,λz p g=>q _ _ (Same.upd g) ?_ λm z=>by cases z⟩))))
    .subst z;have:ys=[]:=by have:=f.length;exact j5.mp this.symm
     subst this;rw[dg]at q;exact q _ H (Same.refl H) ⟨a,_,rfl,n,c.weak λ_ z=>.inr (.inl z)⟩ λm z=>by cases z
    .exact Ak g (Reps.append (c.weak λ_ z=>.inr (.inl z)) (f.weak λ_ z=>.inr (.inr z))) (λ_ z=>z)
  .cases e
theorem Al {gd:Int->Int->D}(h:OpR X f (rI b g))(a:∀i j H B,Rep X.K H B (g i j) (gd i j))(hm:∀dx dy d,m dx dy=.ok d->∃i j,dx=.int i/\dy=.int j/\b i j/\d=gd i j):C9 X f m:=by refine OpR.imp h λx y H Q h=>?_;obtain⟨n,o,dx,dy,d,k,l,e,q⟩:=h;obtain⟨i,j,rfl,rfl,c,rfl⟩:=hm dx dy d e;exact⟨i,j,k,l,c,q _ H (Same.refl H) (a i j _ _) λ_ _ _=>a i j _ _⟩
theorem PU (h:OpR X f (kO g)):OpR X f (rI (λ_ _=>True) g):=OpR.imp h λx y H Q ⟨i,j,a,b,_,q⟩=>⟨i,j,a,b,q⟩
theorem PV:OpR X (iz .FloorDiv) (rI (λ_ j=>0<j/\j<2 ^ 200) λi j=>.int (i/j)):=opI λi j _ _ _ _ _ hc q=>by
 refine floordiv_int (by omega) (by rw[Int.fdiv_eq_ediv_of_nonneg i (by omega)];exact q) (.inl (PyProof.noPylong_of_log2 ?_));have a:j.natAbs<2 ^ 200:=by omega
 have b:=(Nat.log2_lt (by omega)).mpr a;omega
def PX:R2:=λx y H Q=>∃a n,x=.str a/\y=.int n/\(0<=n/\n<=aU/\a.length*n.toNat<=aU)/\Q (.str ⟨(fW n.toNat a.cps.toList).toArray⟩) H
theorem PY {a:Type}(n:Nat):fW n ([]:List a)=[]:=by
 unfold fW
 induction n with
 |zero=>rfl
 |succ n b=>rw[i9,mx,b];rfl
theorem IA (a:Array Nat):∀k acc,(bp k a).foldl (·++·) acc.toArray=(acc++fW k a.toList).toArray
 |0,acc=>by simp[fW]
 |k+1,acc=>by
  rw[i9,kr];have e:acc.toArray++a=(acc++a.toList).toArray:=by simp
  rw[e,IA a k];rw[du];rfl
theorem PZ (h:0<=n):Txt.mul a n=⟨(fW n.toNat a.cps.toList).toArray⟩:=by
 unfold Txt.mul;by_cases c:n<1
 .obtain rfl:n=0:=by omega
  rw[xp c];rfl
 .rw[xq c];split
  .rename_i b;rcases gf.mp b with b|b
   .obtain rfl:n=1:=x5 b;show a=⟨(a.cps.toList++[]).toArray⟩;rw[dg]
   .have e:a.cps.size=0:=x5 b;have d:=j5.mp (bq▸e);rw[d,PY];have f:a.cps=#[]:=by rw[<-Array.toArray_toList (xs:=a.cps),d]
    cases a;cases f;rfl
  .have :=IA a.cps n.toNat [];exact congrArg Str.mk this
theorem P0 (h:Z3 a=Z7)(n:Nat):Z3 ⟨(fW n a.cps.toList).toArray⟩=true:=by unfold Z3 at h ⊢;rw[<-Array.all_toList,a9]at h ⊢;intro c d;obtain⟨l,e,b⟩:=qi.mp d;rw[(List.mem_replicate.mp e).2]at b;exact h c b
theorem P4:OpR X (iz .Mult) PX:=by
 rintro pins s σ H x y v u Q I b c ⟨a,n,rfl,rfl,⟨h0,hn,d⟩,q⟩
 obtain⟨t,rfl⟩:=b;obtain⟨e,rfl⟩:=c;unfold aU at hn d;refine SB.mul (PyProof.Rows.mulOk_of a.length n.toNat (ar _) (by omega) (by omega) (by omega) (by omega)) λf k=>?_;rw[PZ h0];exact⟨.str _,H,I.tok _,⟨_,rfl⟩,q⟩
theorem P5 (f:vr)(h:CZ f=Z7):C9 X (iz f) (cB f):=by
 cases f<;>try (cases h;done)
 case Add=>exact PR
 case Sub=>
  refine Al (PU Od) (gd:=λi j=>.int (i-j)) (λ_ _ _ _=>rfl) λdx b d e=>?_;cases dx<;>try (exact(dS e).elim)
  cases b<;>try (exact(dS e).elim)
  cases e;simp_all
 case Mult=>
  refine OpR.imp (Oe.or P4) λx y H Q h=>?_;obtain⟨p,r,dx,b,d,l,m,e,q⟩:=h;cases dx<;>try (exact(dS e).elim)
  all_goals cases b<;>try (exact(dS e).elim)
  case int.int i j=>
   have e:(if(-(2 ^ 64)<i/\i<2 ^ 64)\/(-(2 ^ 64)<j/\j<2 ^ 64)then Res.ok (Z0 (i*j))else Res.no)=Res.ok d:=e;split at e
   .rename_i c;cases e;exact .inl ⟨i,j,l,m,c,q _ H (Same.refl H) rfl λo z=>by cases z⟩
   .cases e
  case str.int a n=>
   have e:(if 0<=n/\n<=aU/\a.length*n.toNat<=aU then Res.ok (Z2 ⟨(fW n.toNat a.cps.toList).toArray⟩)else Res.no)=Res.ok d:=e;split at e
   .rename_i c;cases e;obtain⟨g,k⟩:=l;exact .inr ⟨a,n,g,m,c,q _ H (Same.refl H) ⟨rfl,P0 k _⟩ λo z=>by cases z⟩
   .cases e
 case FloorDiv=>
  refine Al PV (gd:=λi j=>.int (i/j)) (λ_ _ _ _=>rfl) λdx b d e=>?_;cases dx<;>try (exact(dS e).elim)
  cases b<;>try (exact(dS e).elim)
  rename_i i j;have e:(if 0<j/\j<2 ^ 200 then Res.ok (Z0 (i/j))else Res.no)=Res.ok d:=e;split at e
  .rename_i c;cases e;simp_all
  .cases e
 case Mod=>
  refine Al Of (gd:=λi j=>.int (i%j)) (λ_ _ _ _=>rfl) λdx b d e=>?_;cases dx<;>try (exact(dS e).elim)
  cases b<;>try (exact(dS e).elim)
  rename_i i j;have e:(if 0<j then Res.ok (Z0 (i%j))else Res.no)=Res.ok d:=e;split at e
  .rename_i c;cases e;simp_all
  .cases e
 case Pow=>
  refine Al Og (gd:=λi j=>.int (i ^ j.toNat)) (λ_ _ _ _=>rfl) λdx b d e=>?_;cases dx<;>try (exact(dS e).elim)
  cases b<;>try (exact(dS e).elim)
  rename_i i j;have e:(if 0<=j/\j<=1000/\i.natAbs<2 ^ 64 then Res.ok (Z0 (i ^ j.toNat))else Res.no)=Res.ok d:=e;split at e
  .rename_i c;cases e;exact⟨_,_,rfl,rfl,⟨c.1,by omega,c.2.2⟩,rfl⟩
  .cases e
end
section
variable {X:Cx}{pins:List (Addr×Obj)}{σ:L2.St}{H:Hp}{s:ao}{B:Ad->Prop}
mutual
theorem Rep.reads (I:Inv X pins σ H s):∀{v:V} {u:Value} (d:ak) (n:Nat),shal n d=Z7->Rep X.K H B v d->RelV v u->(∃as,Reads s.heap u d as)/\d.canLay0=Z7/\d.depth<=n
 |v,u,.none,n,_,r,q=>by have e:v=.bK:=r;subst e;cases q;exact⟨⟨[],.none⟩,by simp only[ZZ],dr _⟩
 |v,u,.bool b,n,_,r,q=>by have e:v=.bl b:=r;subst e;cases q;exact⟨⟨[],.bool b⟩,by simp only[ZZ],dr _⟩
 |v,u,.int b,n,_,r,q=>by have e:v=.int b:=r;subst e;obtain⟨t,rfl⟩:=q;exact⟨⟨[],.int b t⟩,by simp only[ZZ],dr _⟩
 |v,u,.str b,n,_,r,q=>by obtain⟨e,ok⟩:v=.str b/\_:=r;subst e;obtain⟨t,rfl⟩:=q;exact⟨⟨[],.str b t⟩,by simp only[ZZ];exact ok,dr _⟩
 |v,u,.tuple ds,0,h,r,q=>by cases h
 |v,u,.list ds,0,h,r,q=>by cases h
 |v,u,.tuple ds,n+1,h,r,q=>by obtain⟨a,vs,e,h1,r1⟩:=r;subst e;cases q;obtain⟨its,rv,⟨o,ho,hc,k,hd⟩,_⟩:=I.tuple h1;obtain⟨⟨as,ra⟩,c,dp⟩:=Reps.reads I ds n (h) r1 rv;refine⟨⟨as,.tuple ho hc hd (by simpa using ra)⟩,by simp only[ZZ];exact c,?_⟩;simp only[PyData.depth];omega
 |v,u,.list ds,n+1,h,r,q=>by obtain⟨a,vs,e,h1,r1⟩:=lV r;subst e;cases q;obtain⟨its,rv,⟨o,k,ho,hc,_,hd⟩,_⟩:=I.list h1;obtain⟨⟨as,ra⟩,c,dp⟩:=Reps.reads I ds n (h) r1 rv;refine⟨⟨a::as,.list ho hc hd (by simpa using ra)⟩,by simp only[ZZ];exact c,?_⟩;simp only[PyData.depth];omega
 |v,u,.dict es,n,h,r,q=>by cases n<;>cases h
theorem Reps.reads (I:Inv X pins σ H s):∀{vs:List V} {us:List Value} (ds:List ak) (n:Nat),cQ n ds=Z7->Reps X.K H B vs ds->Vals vs us->(∃as,pd s.heap us ds as)/\ZY ds=Z7/\ZX ds<=n
 |vs,us,[],n,_,r,q=>by have e:vs=[]:=r;subst e;cases q;exact⟨⟨[],.nil⟩,by simp only[ZY],dr _⟩
 |vs,us,d::ds,n,h,r,q=>by
  obtain⟨v,t,e,h1,r1⟩:=r;subst e;rw[cQ,ax]at h;cases q with
  |cons q1 q2=>obtain⟨⟨as,ra⟩,c,dp⟩:=Rep.reads I d n h.1 h1 q1;obtain⟨⟨bs,rb⟩,c2,Dc⟩:=Reps.reads I ds n h.2 r1 q2;refine⟨⟨as++bs,.cons ra rb⟩,by simp only[ZY,c,c2,ui],?_⟩;simp only[ZX];exact Nat.max_le.mpr ⟨dp,Dc⟩
end
end
section
variable {X:Cx}
def mB (m:D->D->Res Bool):D->D->Res D:=λx y=>m x y>>=λb=>.ok (.bool b)
theorem ya (h:mB m x y=.ok d):∃b,m x y=.ok b/\d=.bool b:=by obtain⟨b,a,c⟩:=Res.aA h;exact⟨b,a,(Res.ok.inj c).symm⟩
theorem Dd (hu:X.A.units+64<cLine):oI X (fi .Eq) (mB (cmpD .Eq)):=by
 rintro a s n H x y v u Q I c f ⟨o,p,dx,dy,d,g,h,e,q⟩
 obtain⟨b,i,rfl⟩:=ya e;have e:=i;have e:(if(shal 40 dx&&shal 40 dy)=Z7 then Res.ok (aY dx dy)else Res.no)=Res.ok b:=e;split at e
 .rename_i hs;cases e;rw[ax]at hs;obtain⟨⟨as,j⟩,k,r⟩:=Rep.reads I dx 40 hs.1 g c;obtain⟨⟨bs,l⟩,m,t⟩:=Rep.reads I dy 40 hs.2 h f;exact SeqAt.compareEq_reads j l k m (by omega) ⟨.bl _,H,I,rfl,q _ H (Same.refl H) rfl⟩
 .cases e
theorem De (hu:X.A.units+64<cLine):oI X (fi .NotEq) (mB (cmpD .NotEq)):=by
 rintro a s n H x y v u Q I c f ⟨o,p,dx,dy,d,g,h,e,q⟩
 obtain⟨b,i,rfl⟩:=ya e;have e:=i;have e:(if(shal 40 dx&&shal 40 dy)=Z7 then Res.ok (!aY dx dy)else Res.no)=Res.ok b:=e;split at e
 .rename_i hs;cases e;rw[ax]at hs;obtain⟨⟨as,j⟩,k,r⟩:=Rep.reads I dx 40 hs.1 g c;obtain⟨⟨bs,l⟩,m,t⟩:=Rep.reads I dy 40 hs.2 h f;exact SeqAt.compareNe_reads j l k m (by omega) ⟨.bl _,H,I,rfl,q _ H (Same.refl H) rfl⟩
 .cases e
theorem zlu (h:OpR X (fi a) r)(f:∀i j b H Q,cmpD a (.int i) (.int j)=.ok b->Q (.bl b) H->r (.int i) (.int j) H Q)
  (hm:∀dx dy b,cmpD a dx dy=.ok b->∃i j,dx=.int i/\dy=.int j):oI X (fi a) (mB (cmpD a)):=by
 refine OpR.imp h λx y H Q h=>?_;obtain⟨l,m,dx,dy,d,g,k,e,q⟩:=h;obtain⟨b,c,rfl⟩:=ya e;obtain⟨i,j,rfl,rfl⟩:=hm dx dy b c;subst g k;exact f i j b H Q c (q _ H (Same.refl H) rfl)
theorem Df:oI X (fi .Lt) (mB (cmpD .Lt)):=zlu CG (λi j b H Q e q=>by cases e;exact Pz q) λa c b e=>by cases a<;>first|exact(dS e).elim|(cases c<;>first|exact⟨_,_,rfl,rfl⟩|exact(dS e).elim)
theorem Dg:oI X (fi .LtE) (mB (cmpD .LtE)):=zlu CH (λi j b H Q e q=>by cases e;exact PB q) λdx dy b e=>by cases dx<;>first|exact(dS e).elim|(cases dy<;>first|exact⟨_,_,rfl,rfl⟩|exact(dS e).elim)
theorem Dh:oI X (fi .Gt) (mB (cmpD .Gt)):=zlu CJ (λi j b H Q e q=>by cases e;exact PD q) λa c b e=>by cases a<;>first|exact(dS e).elim|(cases c<;>first|exact⟨_,_,rfl,rfl⟩|exact(dS e).elim)
theorem bC.val {K:Z5}(k:Key):∀{kvs:List (Key×V)} {es:cR},bC K H B kvs es->match fV es (kD k)with|some d=>∃v,dO kvs k=Z9 v/\Rep K H B v d|none=>dO kvs k=Z8
 |kvs,[],r=>by have e:=r;subst e;exact rfl
 |kvs,(kd,d)::es,r=>by
  obtain⟨a,v,t,e,c,ok,h,q⟩:=r;subst e c;by_cases z:a=k
  .subst z
   have b:fV ((kD a,d)::es) (kD a)=Z9 d:=by
    have:eqK (kD a) (kD a)=true:=by cases a<;>simp[kD,eqK]
    unfold fV;rw[List.find?_cons_of_pos (by exact this)];rfl
   rw[b];exact⟨v,HK rfl,h⟩
  .have f:eqK (kD a) (kD k)=false:=by
    rw[vq];intro w;apply z;cases a<;>cases k<;>simp[kD,eqK]at w<;>rw[w]
   have b:fV ((kD a,d)::es) (kD k)=fV es (kD k):=by unfold fV;rw[List.find?_cons_of_neg (f▸c7)]
   rw[b,HL z];exact bC.val k q
theorem yb {K:Z5}(h:jK d=Z7)(r:Rep K H B v d):∃k,d=kD k/\v=kV k/\keyOk k:=by
 cases d<;>try (cases h;done)
 case int i=>exact⟨.inl i,rfl,r,True.intro⟩
 case str x=>exact⟨.inr x,rfl,r.1,r.2⟩
theorem zk6 (hu:X.A.units+64<cLine)(ng:Bool)(I:Inv X h B H s)(m:RelV x v)(n:RelV y u)
  (o:Rep X.K H L x dx) (p:Rep X.K H M y dy) (e:inD dx dy=.ok b) (q:Q (.bl (if ng then !b else b)) H):
  wpAny (model X.prog X.w) X.A (fi (if ng then .NotIn else .In) v u) (EP X h B Q) X.xe s:=by
 cases dy<;>try (cases e;done)
 case list xs=>
  change(if(shal 40 dx&&cQ 40 xs)=Z7 then Res.ok (xs.any λy=>aY y dx)else .no)=_ at e;split at e
  .rename_i hs;cases e;rw[ax]at hs;obtain⟨⟨as,i⟩,j,C⟩:=Rep.reads I dx 40 hs.1 o m;obtain⟨⟨bs,l⟩,r,D⟩:=Rep.reads I (.list xs) 41 hs.2 p n;have c:ZY xs=true:=by simpa only[ZZ]using r
   cases ng
   .exact SeqAt.in_list_reads l i c j (by omega) ⟨.bl _,H,I,rfl,q⟩
   .exact SeqAt.notIn_list_reads l i c j (by omega) ⟨.bl _,H,I,rfl,q⟩
  .cases e
 case tuple xs=>
  change(if(shal 40 dx&&cQ 40 xs)=Z7 then Res.ok (xs.any λy=>aY y dx)else .no)=_ at e;split at e
  .rename_i hs;cases e;rw[ax]at hs;obtain⟨⟨as,i⟩,j,C⟩:=Rep.reads I dx 40 hs.1 o m;obtain⟨⟨bs,l⟩,r,D⟩:=Rep.reads I (.tuple xs) 41 hs.2 p n;have c:ZY xs=true:=by simpa only[ZZ]using r
   cases ng
   .exact SeqAt.in_tuple_reads l i c j (by omega) ⟨.bl _,H,I,rfl,q⟩
   .exact SeqAt.notIn_tuple_reads l i c j (by omega) ⟨.bl _,H,I,rfl,q⟩
  .cases e
 case dict es=>
  change(if jK dx=Z7 then Res.ok (fV es dx).isSome else .no)=_ at e;split at e
  .rename_i E;cases e;obtain⟨k,rfl,rfl,_⟩:=yb E o;obtain⟨a,kvs,rfl,F,_,G⟩:=p;cases n;have f:=G.val k;have g:DGet H a (kV k) (dO kvs k):=DGet.k F
   have z:(dO kvs k).isSome=(fV es (kD k)).isSome:=by
    cases e:fV es (kD k)with
    |none=>rw[e]at f;rw[show dO kvs k=Z8 from f];rfl
    |some d=>rw[e]at f;obtain⟨v,f,_⟩:=f;rw[f];rfl
   cases ng
   .exact d_in (by omega) I g m λJ t=>⟨.bl _,H,t,rfl,by rw[z];exact q⟩
   .exact zmx (by omega) I g m λJ t=>⟨.bl _,H,t,rfl,by rw[z];exact q⟩
  .cases e
theorem Di (hu:X.A.units+64<cLine):oI X (fi .In) (mB (cmpD .In)):=by
 rintro a s j H x y v u Q I c f ⟨k,l,dx,dy,d,g,h,e,q⟩
 obtain⟨b,i,rfl⟩:=ya e;exact zk6 hu Z6 I c f g h i (q _ H (Same.refl H) rfl)
theorem P6 (hu:X.A.units+64<cLine):oI X (fi .NotIn) (mB (cmpD .NotIn)):=by
 rintro a s l H x y v u Q I c f ⟨m,n,dx,dy,d,g,h,e,q⟩
 obtain⟨b,i,rfl⟩:=ya e;obtain⟨o,j,k⟩:=Res.aA i;cases k;exact zk6 hu Z7 I c f g h j (q _ H (Same.refl H) rfl)
theorem IB (hu:X.A.units+64<cLine)(a:CmpOp)(h:ze5 a=Z7):oI X (fi a) (mB (cmpD a)):=by
 cases a<;>try (cases h;done)
 .exact Dd hu
 .exact De hu
 .exact Df
 .exact Dg
 .exact Dh
 .exact Di hu
 .exact P6 hu
end
section
variable {X:Cx}{a b c e:Expr}{es:List Expr}{fa fb fc:Rho->Res GD}{pos:Pos}
theorem Am (h:PE X e (tC v))(r:∀H B,Rep X.K H B v d):PE X e (tD X.K λ_=>.ok (.fr,d)):=PE.imp h λa H Q ⟨b,F,x,so,e,q⟩=>by cases e;exact q v H (Same.refl H) (r H _)
theorem P7 {i:Nat}(hN:X.N[i]?=Z9 x)(c:Vis X.env.scope x)(hd:Y4 x)(a:(x==("__classdict__":Str))=Z6):PE X (.Name x pos) (tD X.K λb=>Ae b[i]?):=PE.imp (pW hN c hd a) λg H Q ⟨b,F,x,so,e,q⟩=>by obtain⟨v,d,f⟩:=so.rd e;exact⟨v,d,q v H (Same.refl H) f⟩
theorem P8 (hg:Gl X x)(hm:X.mg x=Z9 u)(ru:RelV g u)(hd:Y4 x)(hi:imm d=Z7)(r:∀H B,B Z8->Rep X.K H B g d):PE X (.Name x pos) (tD X.K λ_=>.ok (.fr,d)):=PE.imp (NL hg hm ru hd) λσ H Q ⟨ρ,F,x,so,e,q⟩=>by cases e;exact q _ H (Same.refl H) (Rep.bG d hi (r H (λ_=>True) True.intro))
theorem IC {K:Z5}(r:Rep K H' B v d)(h:∀a,B a->BG F H g a)(n:∀b,d=.list b->imms b=Z7->Rep K H' (nw H) v d):Rep K H' (BG F H (gN d g)) v d:=by
 cases d with
 |list b=>
  show Rep K H' (BG F H (if imms b=Z7 then .fr else g)) v _;split
  .rename_i c;exact n b rfl c
  .exact r.weak h
 |_=>exact qE r h
theorem P9 (k:CZ i=Z7)(l:PE X a (tD X.K fa))(m:PE X b (tD X.K fb)):PE X (.BinOp a i b pos) (tD X.K λc=>fa c>>=λx=>fb c>>=λy=>cB i x.2 y.2>>=λd=>.ok (gN d (cI [x,y]),d)):=
 PE.imp (HA (P5 i k) l m) λE H Q ⟨c,F,z,so,e,q⟩=>by
  obtain⟨x,n,e⟩:=Res.aA e;obtain⟨y,o,e⟩:=Res.aA e;obtain⟨d,p,e⟩:=Res.aA e;cases e;refine⟨c,F,x,so,n,λv G f r=>⟨c,F,y,so.same f,o,λu I g s=>⟨_,_,x.2,y.2,d,r.same g λ_ z=>z,s,p,λw t A j B=>q w t ((f.trans g).trans A) (IC j (λa h=>?_) λC z D=>(B C z D).weak λ_ z=>nw.back (f.trans g) z)⟩⟩⟩;rcases h with h|h|h
  .exact C7 so.aM (f.trans g) h
  .exact uX so.aM (by simp) h
  .exact uX so.aM (by simp) (h.back f)
theorem ID (h:tD X.K (λa=>fa a>>=λx=>fb a>>=λy=>cmpD f x.2 y.2>>=λb=>.ok (.fr,.bool b)) j H Q):wY (Iz X.K (mB (cmpD f))) (tD X.K fa) (tD X.K fb) j H Q:=by obtain⟨a,F,z,so,e,q⟩:=h;obtain⟨x,k,e⟩:=Res.aA e;obtain⟨y,l,e⟩:=Res.aA e;obtain⟨d,m,e⟩:=Res.aA e;cases e;exact⟨a,F,x,so,k,λv s g n=>⟨a,F,y,so.same g,l,λu t i o=>⟨_,_,x.2,y.2,.bool d,n.same i λ_ z=>z,o,by show(cmpD f x.2 y.2>>=λb=>Res.ok (PyData.bool b))=_;rw[m];rfl,λw p r c=>q w p ((g.trans i).trans r) c⟩⟩⟩
theorem zvx (hu:X.A.units+64<cLine)(d:ze5 op=Z7)(hm:iw op b=Z6)(e:PE X a (tD X.K fa))(f:PE X b (tD X.K fb)):
  PE X (.Compare a [op] [b] pos) (tD X.K λc=>fa c>>=λx=>fb c>>=λy=>cmpD op x.2 y.2>>=λb=>.ok (.fr,.bool b)):=
 PE.imp (Ol (IB hu op d) e f hm) λg H Q h=>ID h
theorem Dj (i:∀a H Q,tD X.K f a H Q->t a H Q)(j:∀b x,f b=.ok x->∃c,x.2=.bool c)(a:L2.St)(H:Hp)(Q:Bool->Hp->Prop)(h:eA X.K (λb=>f b>>=λx=>iH x.2) a H Q):HB t a H Q:=by obtain⟨b,F,c,so,e,q⟩:=h;obtain⟨x,d,e⟩:=Res.aA e;obtain⟨k,g⟩:=j b x d;rw[g]at e;cases e;refine i a H _ ⟨b,F,x,so,d,λv l s r=>?_⟩;rw[g]at r;exact⟨k,r,q l s⟩
theorem P' (e:(fa ρ>>=λx=>fb ρ>>=λy=>cmpD op x.2 y.2>>=λb=>Res.ok ((.fr,.bool b):GD))=.ok x):∃c,x.2=.bool c:=by obtain⟨x,e1,e⟩:=Res.aA e;obtain⟨y,e2,e⟩:=Res.aA e;obtain⟨d,e3,e⟩:=Res.aA e;cases e;exact⟨d,rfl⟩
theorem zyd (hu:X.A.units+64<cLine)(d:ze5 op=Z7)(hm:iw op b=Z6)(f:PE X a (tD X.K fa))(g:PE X b (tD X.K fb)):
  PT X (.Compare a [op] [b] pos) (eA X.K λc=>(fa c>>=λx=>fb c>>=λy=>cmpD op x.2 y.2>>=λb=>Res.ok ((.fr,.bool b):GD))>>=λx=>iH x.2):=
 PT.imp (Om (IB hu op d) f g hm) (Dj (λi H Q h=>ID h) λc x e=>P' e)
theorem IE {K:Z5}(r:Rep K H B v d):decide (v=.bK)=(match d with|.none=>Z7|_=>Z6):=by
 cases d with
 |none=>have e:v=.bK:=r;subst e;rfl
 |bool b=>have e:v=.bl b:=r;subst e;rfl
 |int b=>have e:v=.int b:=r;subst e;rfl
 |str b=>have e:v=.str b:=r.1;subst e;rfl
 |tuple c=>obtain⟨a,f,e,_⟩:=r;subst e;rfl
 |list c=>obtain⟨a,f,e,_⟩:=r;subst e;rfl
 |dict c=>obtain⟨a,f,e,_⟩:=r;subst e;rfl
def oK (ng:Bool)(fa:Rho->Res GD):Rho->Res GD:=λρ=>fa ρ>>=λx=>.ok (.fr,.bool (match x.2 with|.none=>!ng|_=>ng))
theorem An (h:tD X.K (oK f fa) k H Q):(if f then Hl (tD X.K fa)else wU (tD X.K fa)) k H Q:=by
 obtain⟨i,F,z,so,e,q⟩:=h;obtain⟨x,j,e⟩:=Res.aA e;cases e;cases f with
 |false=>
  refine⟨i,F,x,so,j,λv a b c=>?_⟩
  dsimp only
  rw[IE c];refine q _ a b ?_;obtain⟨g,d⟩:=x;cases d<;>rfl
 |true=>
  refine⟨i,F,x,so,j,λv a b c=>?_⟩
  dsimp only
  rw[IE c];refine q _ a b ?_;obtain⟨g,d⟩:=x;cases d<;>rfl
theorem IF (e:oK ng fa ρ=.ok x):∃c,x.2=.bool c:=by obtain⟨x,e1,e⟩:=Res.aA e;cases e;exact⟨_,rfl⟩
theorem Qa {j p2}(ho:o=if ng then .IsNot else .Is)(ha:PE X a (tD X.K fa)):PE X (.Compare a [o] [.Constant .none j p2] pos) (tD X.K (oK ng fa)):=by
 subst ho;cases ng with
 |false=>exact PE.imp (Ho (Hm ha)) λσ H Q h=>An h
 |true=>exact PE.imp (Ho (Hn ha)) λσ H Q h=>An h
theorem Qb {j d}(f:o=if ng then .IsNot else .Is)(c:PE X a (tD X.K fa)):PT X (.Compare a [o] [.Constant .none j d] pos) (eA X.K λb=>oK ng fa b>>=λx=>iH x.2):=by
 subst f;cases ng with
 |false=>exact PT.imp (Hq (Hm c)) (Dj (λg H Q h=>An h) λb x e=>IF e)
 |true=>exact PT.imp (Hq (Hn c)) (Dj (λg H Q h=>An h) λb x e=>IF e)
def Dk (fa fb:Rho->Res GD):Rho->Res GD:=λρ=>fa ρ>>=λx=>match x.2 with|.bool c=>if c then fb ρ else .ok (.fr,.bool Z6)|_=>.no
def Qc (fa fb:Rho->Res GD):Rho->Res GD:=λρ=>fa ρ>>=λx=>match x.2 with|.bool c=>if c then .ok (.fr,.bool Z7)else fb ρ|_=>.no
theorem Ao (c:Same H g)(so:StOk X.K F H h d)(e:f d=.ok x)(q:∀v a,Same H a->Rep X.K a (BG F H x.1) v x.2->Q v a):tD X.K f h g Q:=⟨d,F,x,so.same c,e,λv a s r=>q v a (c.trans s) (r.weak λ_ b=>b.back c)⟩
theorem IG {rest:List Expr}(h:PE X a (tD X.K fa))(i:PE X (.BoolOp .And (b::rest) pos) (tD X.K fb)):PE X (.BoolOp .And (a::b::rest) pos) (tD X.K (Dk fa fb)):=
 PE.imp (NU h i) λn H Q ⟨j,F,z,so,e,q⟩=>by
  obtain⟨x,k,e⟩:=Res.aA e;refine⟨j,F,x,so,k,λv l f m=>?_⟩;obtain⟨g,d⟩:=x;cases d<;>try (cases e;done)
  rename_i c;refine⟨c,m,?_⟩;cases c with
  |true=>exact gI (Ao f so e q)
  |false=>cases e;exact gH (q _ l f rfl)
theorem yc {rest:List Expr}(h:PE X a (tD X.K fa))(i:PE X (.BoolOp .Or (b::rest) pos) (tD X.K fb)):PE X (.BoolOp .Or (a::b::rest) pos) (tD X.K (Qc fa fb)):=
 PE.imp (NV h i) λn H Q ⟨j,F,z,so,e,q⟩=>by
  obtain⟨x,k,e⟩:=Res.aA e;refine⟨j,F,x,so,k,λv l f m=>?_⟩;obtain⟨g,d⟩:=x;cases d<;>try (cases e;done)
  rename_i c;refine⟨c,m,?_⟩;cases c with
  |false=>exact gH (Ao f so e q)
  |true=>cases e;exact gI (q _ l f rfl)
theorem IH {K:Z5}(r:Rep K H B v d)(e:iH d=.ok k):rG K v H k:=by
 cases d with
 |none=>cases e;have c:v=.bK:=r;subst c;exact rfl
 |bool b=>cases e;have c:v=.bl b:=r;subst c;exact rfl
 |int b=>cases e;have c:v=.int b:=r;subst c;show(!decide (b=0))=(b != 0);rw[bne,nq]
 |str b=>
  have c:=r.1;subst c;simp only[iH]at e;split at e
  .rename_i j;cases e;refine⟨jX j,?_⟩;rw[bne,nq]
   congr 1
   rw[decide_eq_decide];omega
  .cases e
 |tuple g=>cases e;obtain⟨a,f,c,h,q⟩:=r;subst c;refine .inr (.inl ⟨f,h,?_⟩);show(!g.isEmpty)=!f.isEmpty;have:=q.length;cases f<;>cases g<;>simp at this ⊢
 |list g=>cases e;obtain⟨a,f,c,h,q⟩:=lV r;subst c;refine .inl ⟨f,h,?_⟩;show(!g.isEmpty)=!f.isEmpty;have:=q.length;cases f<;>cases g<;>simp at this ⊢
 |dict es=>
  cases e;obtain⟨a,kvs,c,h,_,q⟩:=r;subst c;refine .inr (.inr ⟨kvs,h,?_⟩);cases es with
  |nil=>have i:kvs=[]:=q;subst i;rfl
  |cons l m=>obtain⟨k,v,t,i,_⟩:=q;subst i;rfl
theorem Qd (m:PE X a (tD X.K fa)):PE X (.UnaryOp .Not a pos) (tD X.K λh=>fa h>>=λx=>iH x.2>>=λc=>.ok (.fr,.bool (!c))):=by
 rintro d s l H Q I ⟨h,F,z,so,e,q⟩
 obtain⟨x,n,e⟩:=Res.aA e;obtain⟨k,o,e⟩:=Res.aA e;cases e;refine UnaryOp_ (aN (m d s l H (λv f=>Same H f/\Rep X.K f (BG F H x.1) v x.2) I ⟨h,F,x,so,n,λv f i j=>⟨i,j⟩⟩) λv i p=>?_);obtain⟨y,f,r,t,u,j⟩:=p;exact not_of (aN (HD d i l f y v (λb g=>b=k/\g=f) r t ⟨k,IH j o,rfl,rfl⟩) λb w ⟨g,A,B,C⟩=>by subst B C;exact⟨.bl _,g,A,rfl,q _ g u rfl⟩)
theorem Qe (c:PE X e (tD X.K fa))(d:∀a,sj e X.env a=(do let v <-a;wx e.pos;va [v] (w4 v))):PT X e (eA X.K λb=>fa b>>=λx=>iH x.2):=PT.imp (zie c d) λj H Q ⟨b,F,k,so,e,q⟩=>by obtain⟨x,f,e⟩:=Res.aA e;exact⟨b,F,x,so,f,λv g h i=>⟨k,IH i e,q g h⟩⟩
section
variable {ta tb:Rho->Res Bool}{rest:List Expr}
theorem II (b:Same H H1)(so:StOk X.K F H σ ρ)(e:f ρ=.ok x)(q:∀a,Same H a->Q x a):eA X.K f σ H1 Q:=⟨ρ,F,x,so.same b,e,λa s=>q a (b.trans s)⟩
theorem w_and (f:PT X a (eA X.K g))(h:PW X (.BoolOp .And (b::rest) pos) (eA X.K i)):PW X (.BoolOp .And (a::b::rest) pos) (eA X.K λd=>g d>>=λc=>if c then i d else .ok Z6):=
 PW.imp (NR f h) λm H Q ⟨d,F,k,so,e,q⟩=>by
  obtain⟨x,j,e⟩:=Res.aA e;refine⟨d,F,x,so,j,λn l=>?_⟩;cases x with
  |true=>exact gI (II l so e q)
  |false=>cases e;simp_all
theorem w_or (f:PT X a (eA X.K g))(h:PW X (.BoolOp .Or (b::rest) pos) (eA X.K i)):PW X (.BoolOp .Or (a::b::rest) pos) (eA X.K λd=>g d>>=λc=>if c then .ok Z7 else i d):=
 PW.imp (NS f h) λm H Q ⟨d,F,k,so,e,q⟩=>by
  obtain⟨x,j,e⟩:=Res.aA e;refine⟨d,F,x,so,j,λn l=>?_⟩;cases x with
  |false=>exact gH (II l so e q)
  |true=>cases e;simp_all
theorem jY (ha:PT X a (eA X.K ta)):PT X (.UnaryOp .Not a pos) (eA X.K λρ=>ta ρ>>=λc=>.ok (!c)):=PT.imp (Hr ha) λσ H Q ⟨ρ,F,k,so,e,q⟩=>by obtain⟨x,e1,e⟩:=Res.aA e;cases e;exact⟨ρ,F,x,so,e1,λH1 s1=>q H1 s1⟩
theorem Qf (hc:PT X c (eA X.K g))(h:PE X a (tD X.K fa))(i:PE X b (tD X.K fb)):PE X (.IfExp c a b pos) (tD X.K λd=>g d>>=λk=>if k then fa d else fb d):=
 PE.imp (NY hc h i) λl H Q ⟨d,F,z,so,e,q⟩=>by
  obtain⟨x,j,e⟩:=Res.aA e;refine⟨d,F,x,so,j,λm f=>?_⟩;cases x with
  |true=>exact gI (Ao f so e q)
  |false=>exact gH (Ao f so e q)
end
theorem IJ:PA X [] (tDA X.K λ_=>.ok []):=PA.imp mM λa H Q ⟨b,F,z,so,e,q⟩=>by cases e;exact q [] H (Same.refl H) rfl
theorem Dl (hs:isStar e=Z6)(f:PE X e (tD X.K fa))(hr:PA X es (tDA X.K fs)):PA X (e::es) (tDA X.K λa=>fa a>>=λx=>fs a>>=λb=>.ok (x::b)):=PA.imp (gL f hr hs) λl H Q ⟨a,F,z,so,e,q⟩=>by obtain⟨x,g,e⟩:=Res.aA e;obtain⟨b,h,e⟩:=Res.aA e;cases e;refine⟨a,F,x,so,g,λv m c i=>⟨a,F,b,so.same c,h,λj k d rs=>q _ k (c.trans d) ?_⟩⟩;exact⟨v,j,rfl,i.same d λ_ z=>z,rs.back c⟩
theorem Qg {i}(h:PA X es (tDA X.K fs))(j:∀b d,fs b=.ok d->d.length<=bj):PE X (.Tuple es i pos) (tD X.K λb=>fs b>>=λc=>.ok (gJ (.tuple (c.map (·.2))) (cI c),.tuple (c.map (·.2)))):=PE.imp (Oy h) λm H Q ⟨b,F,z,so,e,q⟩=>by obtain⟨c,f,e⟩:=Res.aA e;cases e;refine⟨b,F,c,so,f,λn o k rs=>?_⟩;have r:=rs.jW λx l a h=>uX so.aM l h;refine⟨by rw[r.length,af];exact j b c f,λp g=>q _ _ (k.trans (Same.upd g)) (qE (Ak g r λ_ z=>z) λ_ z=>z)⟩
theorem Qh (h:PA X es (tDA X.K fs))(j:∀b f,fs b=.ok f->f.length<=bj):PE X (.List es pos) (tD X.K λb=>fs b>>=λc=>.ok (cI c,.list (c.map (·.2)))):=PE.imp (HE h) λl H Q ⟨b,F,z,so,e,q⟩=>by obtain⟨c,g,e⟩:=Res.aA e;cases e;refine⟨b,F,c,so,g,λm n i rs=>?_⟩;have r:=rs.jW λx k a h=>uX so.aM k h;refine⟨by rw[r.length,af];exact j b c g,λp d=>q _ _ (i.trans (Same.upd d)) (oJ d r (λ_ z=>z) (C7 so.aM i d))⟩
theorem Qi:PE X (.Dict [] [] pos) (tD X.K λ_=>.ok (.fr,.dict [])):=PE.imp OG λb H Q ⟨c,F,z,so,e,q⟩=>by cases e;intro p a;exact q _ _ (Same.upd a) ⟨p,[],rfl,bQ,a,rfl⟩
end
theorem Qj {b:Type}(a:List b)(i:Int):L2.cY a i=Mi.cY a i:=rfl
theorem Qk (n d:Nat)(o:Option Int):HT.bA n d o=Mi.bA n d o:=by cases o<;>rfl
theorem Reps.cut {K:Z5}(a b:Option Int)(r:Reps K H B c d):Reps K H B (Mi.cut c a b) (Mi.cut d a b):=by unfold Mi.cut;rw[r.length];exact(r.drop _).take _
theorem Reps.cY {K:Z5}(r:Reps K H B c b)(e:Mi.cY b i=Z9 d):∃v,L2.cY c i=Z9 v/\Rep K H B v d:=by
 unfold Mi.cY at e;cases a:Mi.iT b.length i with
 |none=>rw[a]at e;cases e
 |some j=>rw[a]at e;obtain⟨v,f,g⟩:=r.get e;refine⟨v,?_,g⟩;rw[Qj];unfold Mi.cY;rw[r.length,a];exact f
section
variable {X:Cx}{a b c e:Expr}{es:List Expr}{fa fb fc:Rho->Res GD}{pos:Pos}
theorem Ql (hu:X.A.units+64<cLine):kP X (λx y H Q=>∃a v,x=.ref a/\DGet H a y (Z9 v)/\Q v H):=by intro b c e s k H x y v u Q I f i h hs;obtain⟨a,z,rfl,g,q⟩:=h;cases f;exact tail_any (OE I g) PySem.F.slot_dict_getitem.lookup (zdr (by omega) I g i λl m j d=>⟨z,H,j,d,q⟩) hs
def Dm (K:Z5):R2:=λx y H Q=>∃B B' dx dy d,Rep K H B x dx/\Rep K H B' y dy/\iJ dx dy=.ok d/\∀w,Rep K H B w d->Q w H
theorem Qm (hu:X.A.units+64<cLine):kP X (Dm X.K):=by
 intro f g l s G H x y v u Q I J L h hs;refine(Pr.or (Ql hu)) f g l s G H x y v u Q I J L ?_ hs;obtain⟨B,R,dx,dy,d,m,r,e,q⟩:=h;cases dx<;>try (cases e;done)
 case list xs=>
  cases dy<;>try (cases e;done)
  rename_i i;subst r;obtain⟨a,t,rfl,n,C⟩:=lV m;change Res.eE (Mi.cY xs i)=_ at e;cases b:Mi.cY xs i with
  |none=>rw[b]at e;cases e
  |some D=>rw[b]at e;cases e;obtain⟨w,o,p⟩:=C.cY b;exact .inl (.inl ⟨a,t,i,w,rfl,rfl,n,o,q w p⟩)
 case tuple xs=>
  cases dy<;>try (cases e;done)
  rename_i i;subst r;obtain⟨a,t,rfl,n,C⟩:=m;change Res.eE (Mi.cY xs i)=_ at e;cases b:Mi.cY xs i with
  |none=>rw[b]at e;cases e
  |some D=>rw[b]at e;cases e;obtain⟨w,o,p⟩:=C.cY b;exact .inl (.inr (.inl ⟨a,t,i,w,rfl,rfl,n,o,q w p⟩))
 case str z=>
  cases dy<;>try (cases e;done)
  rename_i i;have M:=m.1;subst M r;change(if z.length<=aU then Res.eE ((Mi.cY z.cps.toList i).map λc=>Z2 ⟨#[c]⟩)else .no)=_ at e;split at e
  .rename_i N;cases b:Mi.cY z.cps.toList i with
   |none=>rw[b]at e;cases e
   |some c=>
    rw[b]at e;cases e
    have hc:c∈z.cps.toList:=by
     unfold Mi.cY at b;cases E:Mi.iT z.cps.toList.length i with
     |none=>rw[E]at b;cases b
     |some j=>rw[E]at b;exact bx b
    exact .inl (.inr (.inr ⟨z,i,c,rfl,rfl,jX N,b,q _ ⟨rfl,PJ m.2 hc⟩⟩))
  .cases e
 case dict es=>
  change(if jK _=Z7 then Res.eE (fV es _)else Res.no)=_ at e;split at e
  .rename_i O;obtain⟨k,rfl,rfl,_⟩:=yb O r;obtain⟨a,kvs,rfl,n,_,P⟩:=m;have F:=P.val k;cases b:fV es (kD k)with
   |none=>rw[b]at e;cases e
   |some D=>rw[b]at e F;cases e;obtain⟨w,o,p⟩:=F;exact .inr ⟨a,w,rfl,by rw[<-o];exact DGet.k n,q w p⟩
  .cases e
theorem Qn (h:z69 i=Z7):HX i:=λo v=>by cases i<;>first|rfl|cases h
theorem d_ix (hu:X.A.units+64<cLine)(hs:z69 i=Z7)(h:PE X a (tD X.K fa))(j:PE X i (tD X.K k)):
  PE X (.Subscript a i pos) (tD X.K λb=>fa b>>=λx=>k b>>=λy=>iJ x.2 y.2>>=λd=>.ok (gJ d x.1,d)):=
 PE.imp (OS (Qm hu) h j (Qn hs)) λs H Q ⟨b,F,z,so,e,q⟩=>by obtain⟨x,l,e⟩:=Res.aA e;obtain⟨y,m,e⟩:=Res.aA e;obtain⟨d,n,e⟩:=Res.aA e;cases e;exact⟨b,F,x,so,l,λv t f o=>⟨b,F,y,so.same f,m,λu p g r=>⟨_,_,x.2,y.2,d,o.same g λ_ z=>z,r,n,λw c=>q w p (f.trans g) (qE c λ_ z=>z)⟩⟩⟩
theorem Qo (h:Z3 z=Z7)(a b:Option Int):Z3 (rQ z a b)=true:=
 qF.mpr λc hc=>qF.mp h c (by
  have:c∈Mi.cut z.cps.toList a b:=by simpa[rQ]using hc
  exact sy (tj this))
theorem IK (a b:Option Int)(n:Nat):jb a b 1 n=sliceRange ((Mi.bA n 0 a:Nat):Int) ((Mi.bA n n b:Nat):Int) 1:=by
 delta jb
 simp
 congr 1
 .cases a with
  |none=>rfl
  |some v=>
   simp only[Mi.bA];by_cases h:v<0
   .simp only[xp h];omega
   .simp only[xq h];omega
 .cases b with
  |none=>rfl
  |some v=>
   simp only[Mi.bA];by_cases h:v<0
   .simp only[xp h];omega
   .simp only[xq h];omega
theorem Qp (n d:Nat)(hd:d<=n)(o:Option Int):Mi.bA n d o<=n:=by rw[<-Qk];exact HT.rM n d hd o
theorem Qq (z:Str)(a b:Option Int):Txt.slice z a b=rQ z a b:=by
 have hn:z.cps.toList.length=z.length:=by simp[Str.length]
 have e:(jb a b 1 z.length).filterMap (z.cps[·]?)=Mi.cut z.cps.toList a b:=by rw[IK,sv,pick_run];unfold Mi.cut;rw[hn]
 have f:(jb a b 1 z.length).length=Mi.bA z.length z.length b-Mi.bA z.length 0 a:=by rw[IK,sv,af,gh]
 unfold Txt.slice;split
 .rename_i hc;simp at hc;have g:=Qp z.length z.length (ar _) b
  have c:Mi.cut z.cps.toList a b=z.cps.toList:=by
   unfold Mi.cut;rw[hn];by_cases h0:Mi.bA z.length 0 a=0
   .rw[h0,List.drop_zero,jc (by grind)]
   .have d:z.length=0:=by omega
    have:z.cps.toList=[]:=j5.mp (hn▸d);rw[this];simp
  unfold rQ;rw[c]
 .unfold rQ;rw[<-e]
def Dp (K:Z5):V->Option Int->Option Int->Hp->VK->Prop:=λx lo hi H Q=>∃B dx d,Rep K H B x dx/\oA dx lo hi=.ok d/\∀w H',Same H H'->Rep K H' (λa=>nw H a\/B a) w d->(∀ds,d=.list ds->imms ds=Z7->Rep K H' (nw H) w d)->Q w H'
theorem Qr:mP X (Dp X.K):=by
 intro g s n H x v o t b c sl Q I u hs pl pu h;refine(Pt.or OQ) g s n H x v o t b c sl Q I u hs pl pu ?_;obtain⟨B,w,d,r,e,q⟩:=h;cases w<;>try (cases e;done)
 case list xs=>cases e;obtain⟨a,j,rfl,k,i⟩:=lV r;refine .inl (.inl ⟨a,j,rfl,k,λp f=>?_⟩);exact q _ _ (Same.upd f) (oJ f (i.cut b c) (λ_ z=>.inr z) (.inl f)) λm z l=>by cases z;exact oJ f (Reps.bG _ l (i.cut b c)) (λ_ z=>z) f
 case tuple xs=>
  change(if bA xs.length 0 b=0/\bA xs.length xs.length c=xs.length then Res.no else Res.ok (PyData.tuple (cut xs b c)))=_ at e;split at e
  .cases e
  .rename_i y;cases e;obtain⟨a,j,rfl,k,i⟩:=r;refine .inr ⟨a,j,rfl,k,by rw[i.length];exact y,λp f=>?_⟩;exact q _ _ (Same.upd f) (Ak f (i.cut b c) λ_ z=>.inr z) λm z=>by cases z
 case str z=>
  change(if z.length<=aU then Res.ok (Z2 (rQ z b c))else .no)=_ at e;split at e
  .rename_i hl;cases e;have A:=r.1;subst A;refine .inl (.inr ⟨z,rfl,jX hl,?_⟩);rw[Qq];exact q _ H (Same.refl H) ⟨rfl,Qo r.2 b c⟩ λm z=>by cases z
  .cases e
theorem mT:PO X Z8 (tDO X.K λ_=>.ok Z8):=PO.imp OM λa H Q ⟨b,F,z,so,e,q⟩=>by cases e;exact q H (Same.refl H)
theorem Qs (c:PE X a (tD X.K fa)):PO X (Z9 a) (tDO X.K λb=>fa b>>=λx=>rR x.2):=
 PO.imp (ON c) λk H Q ⟨b,F,z,so,e,q⟩=>by
  obtain⟨x,f,e⟩:=Res.aA e;refine⟨b,F,x,so,f,λv h i j=>?_⟩;obtain⟨g,d⟩:=x;cases d<;>try (cases e;done)
  cases e;exact⟨_,j,q h i⟩
theorem d_sl {k:Option Expr}(m:PE X a (tD X.K fa))(n:PO X k (tDO X.K fl))(hh:PO X i (tDO X.K o)):
  PE X (.Subscript a (.Slice k i Z8 p2) pos) (tD X.K λb=>fa b>>=λx=>fl b>>=λl=>o b>>=λh=>oA x.2 l h>>=λd=>.ok (gN d (cI [x]),d)):=
 PE.imp (OP Qr m n hh) λD H Q ⟨b,F,z,so,e,q⟩=>by
  obtain⟨x,p,e⟩:=Res.aA e;obtain⟨l,r,e⟩:=Res.aA e;obtain⟨h,s,e⟩:=Res.aA e;obtain⟨d,t,e⟩:=Res.aA e;cases e;refine⟨b,F,x,so,p,λv E c u=>⟨b,F,l,so.same c,r,λG f=>⟨b,F,h,so.same (c.trans f),s,λI g=>⟨_,x.2,d,u.same (f.trans g) λ_ z=>z,t,λw y A j B=>q w y ((c.trans (f.trans g)).trans A) (IC j (λa h=>?_) λC z i=>(B C z i).weak λ_ z=>nw.back (c.trans (f.trans g)) z)⟩⟩⟩⟩;rcases h with h|h
  .exact C7 so.aM (c.trans (f.trans g)) h
  .exact uX so.aM (by simp) h
theorem d_cB {id:String}(hc:CallR X (.builtin id) (zbu X.K m))(hm:X.mg x=Z8)(k:c9 x=Z9 (.builtin id))(l:PA X (e::es) (tDA X.K fs))(b:((e::es).all fun e=>!isStar e)=Z7)(n:Gl X x)(hn:x≠"__name__")(c:Y4 x):
  PE X (.Call (.Name x p) (e::es) [] pos) (tD X.K λf=>fs f>>=λg=>m (g.map (·.2))>>=λd=>.ok (gJ d .al,d)):=
 PE.imp (xO hc hm k l b n hn c) λu H Q ⟨f,F,z,so,e,q⟩=>by obtain⟨g,o,e⟩:=Res.aA e;obtain⟨d,r,e⟩:=Res.aA e;cases e;exact⟨f,F,g,so,o,λv y j rs=>⟨_,_,d,rs.gS so.aM,r,λw s t i=>q w s (j.trans t) (qE i λa h=>h.elim (λz=>(nw.back j z).aM so.aM) λz=>z)⟩⟩
theorem bC.length {K:Z5}:∀{a:List (Key×V)} {es:cR},bC K H B a es->a.length=es.length
 |a,[],r=>by have e:a=[]:=r;subst e;rfl
 |a,(kd,d)::es,r=>by obtain⟨k,v,t,rfl,_,_,_,q⟩:=r;rw[a8,a8,q.length]
theorem uY {K:Z5}(r:Reps K H B xs [d]):∃v,xs=[v]/\Rep K H B v d:=by obtain⟨v,t,e,h,q⟩:=r;subst e q;exact⟨v,rfl,h⟩
theorem yd {K:Z5}(r:Reps K H B xs [d,d']):∃v v',xs=[v,v']/\Rep K H B v d/\Rep K H B v' d':=by obtain⟨v,t,e,h,q⟩:=r;obtain⟨v',e2,h'⟩:=uY q;subst e e2;exact⟨v,v',rfl,h,h'⟩
theorem Qt:CallR X (.builtin "len") (zbu X.K (gO "len")):=by
 refine CallR.imp (Pu.or Pc) λl H Q h=>?_;obtain⟨B,g,d,r,e,q⟩:=h;simp only[gO,if_true]at e;split at e
 .rename_i x;obtain⟨v,rfl,i⟩:=uY r;clear r;have r:=i;cases x<;>try (cases e;done)
  case str z=>
   change(if z.length<=aU then Res.ok (Z0 z.length)else .no)=_ at e;split at e
   .rename_i j;cases e;have k:=r.1;subst k;exact .inl (.inl ⟨z,rfl,jX j,q _ H (Same.refl H) rfl⟩)
   .cases e
  case tuple g=>cases e;obtain⟨a,b,rfl,c,f⟩:=r;exact .inl (.inr ⟨a,b,rfl,.inr c,q _ H (Same.refl H) (f.length▸rfl)⟩)
  case list g=>cases e;obtain⟨a,b,rfl,c,f⟩:=lV r;exact .inl (.inr ⟨a,b,rfl,.inl c,q _ H (Same.refl H) (f.length▸rfl)⟩)
  case dict g=>cases e;obtain⟨a,b,rfl,c,_,f⟩:=r;exact .inr ⟨a,b,rfl,c,q _ H (Same.refl H) (f.length▸rfl)⟩
 .cases e
theorem Qu (hc:X.calm=Z7):CallR X (.builtin "max") (zbu X.K (gO "max")):=by
 refine CallR.imp (Ou hc) λc H Q h=>?_;obtain⟨B,f,d,r,e,q⟩:=h;simp only[gO,show("max":String)≠"len" by decide,if_true,if_false]at e;split at e
 .rename_i i j;cases e;obtain⟨v,g,rfl,a,b⟩:=yd r;subst a b;refine⟨i,j,rfl,q _ H (Same.refl H) ?_⟩
  congr 1
  split<;>omega
 .cases e
theorem z5q {a b:Int}(hh:A.handled=Z8)(hp:s.heap.IsTuple p #[.int a t,.int b u])
  (hQ:∀z h' tk,(∀c o,s.heap.get? c=Z9 o->h'.get? c=Z9 o)->Q (.int (if b<a then b else a) z) {s with heap:=h',toks:=tk}):wpAny (model prog w) A (call (.builtin "min") [.ref p]) Q E s:=by
 have ei:xh #[(a,t),(b,u)]=#[.int a t,.int b u]:=by simp[xh]
 have sE:s.heap.IsTuple p (xh #[(a,t),(b,u)]):=ei▸hp;have lt:p<s.heap.objs.size:=by obtain⟨o,ho,_⟩:=hp;exact bh ho
 refine call_min_walk (l8 sE (⟨_,[s.heap.objs.size,p],[s.heap.objs.size],_,_,_,_,rfl,Walks.tuple (A:=A.in1) hh _ p (br lt) _,⟨⟨_,a7 _ rfl,rfl,rfl⟩,sE.push _⟩,λc hc=>?_,(ei▸my 1),CmpOf.ints_lt (numAt #[(a,t),(b,u)]) (λ_ _=>intItems_at),λv h' tk hP hk=>?_⟩))
 .rw[gk];simp at hc;rcases hc with rfl|rfl
  .exact lh _
  .exact gi lt
 .have keep:∀c o,s.heap.get? c=Z9 o->h'.get? c=Z9 o:=λc o e=>hk c o (λz=>cg _ (ay.mp z▸bh e)) (ac _ e);have es:(xh #[(a,t),(b,u)]).size-1=1:=by rw[ei];rfl
  rw[es]at hP;by_cases Ap:b<a
  .have e1:argBest (fun i j=>decide (numAt #[(a,t),(b,u)] i<numAt #[(a,t),(b,u)] j)) 1=1:=by
    show(if decide (b<a)=Z7 then 1 else 0)=1;rw[xz Ap];rfl
   rw[e1,ei]at hP;cases(xr hP);have:=hQ u h' tk keep
   rwa [xp Ap]at this
  .have e1:argBest (fun i j=>decide (numAt #[(a,t),(b,u)] i<numAt #[(a,t),(b,u)] j)) 1=0:=by
    show(if decide (b<a)=Z7 then 1 else 0)=0;rw[x4 Ap];rfl
   rw[e1,ei]at hP;cases(xr hP);have:=hQ t h' tk keep
   rwa [xq Ap]at this
theorem Qv (hc:X.calm=Z7):CallR X (.builtin "min") (λxs H Q=>∃p i j,xs=[.ref p]/\cA X.K H p [.int i,.int j]/\Q (.int (if j<i then j else i)) H):=by
 rintro pins s σ H xs us Q I r ⟨p,i,j,rfl,hq,q⟩
 obtain⟨u,rfl,rfl⟩:=vals1 r;obtain⟨its,rv,hp,_⟩:=I.tuple hq;obtain⟨a,b,rfl,⟨t,rfl⟩,t',rfl⟩:=vals2 rv;exact z5q (I.ok.hd hc) hp λz h' tk k=>⟨.int (if j<i then j else i),H,I.kept k,⟨z,rfl⟩,q⟩
theorem Qw (hc:X.calm=Z7):CallR X (.builtin "min") (zbu X.K (gO "min")):=by
 refine CallR.imp ((Ov hc).or (Qv hc)) λxs H Q h=>?_;obtain⟨B,ds,d,r,e,q⟩:=h;replace e:minD ds=Res.ok d:=e;have mn:∀i j:Int,(if j<i then j else i)=min i j:=λi j=>by split<;>omega
 have m2:∀{x y:D},min2 x y=.ok d->∃i j,x=.int i/\y=.int j/\d=.int (min i j):=λ{x y} h=>by
  cases x<;>try (exact(dS h).elim)
  cases y<;>try (exact(dS h).elim)
  cases h;exact⟨_,_,rfl,rfl,rfl⟩
 rcases ds with _|⟨a,_|⟨b,_|⟨c,ds⟩⟩⟩
 .exact(dS e).elim
 .cases a<;>try (exact(dS e).elim)
  rename_i ys;rcases ys with _|⟨a,_|⟨b,_|⟨c,ys⟩⟩⟩
  .exact(dS e).elim
  .exact(dS e).elim
  .obtain⟨i,j,rfl,rfl,rfl⟩:=m2 e;obtain⟨v,rfl,p,vs,rfl,hq,rs⟩:=uY r;obtain⟨v1,v2,rfl,h1,h2⟩:=yd rs;subst h1 h2;exact .inr ⟨p,i,j,rfl,hq,q _ H (Same.refl H) (show V.int _=V.int _ by rw[mn])⟩
  .unfold minD vT at e;exact(dS e).elim
 .obtain⟨i,j,rfl,rfl,rfl⟩:=m2 e;obtain⟨v,v',rfl,h1,h2⟩:=yd r;subst h1 h2;exact .inl ⟨i,j,rfl,q _ H (Same.refl H) (show V.int _=V.int _ by rw[mn])⟩
 .exact(dS e).elim
theorem zhe (I:Inv X j q H s)(c:RelV x u)(r:Rep X.K H B x d)(l:T∈tysB)
  (h:∀m,Q (.bool (jN (gP d) T)) {s with toks:=m}):wpAny (model X.prog X.w) A (call (.builtin "isinstance") [u,.type T]) Q E s:=by
 have n:gP d∈nW:=by cases d<;>simp[gP,nW]
 have e:=Pw X.K _ n T l;cases d with
 |none=>have f:x=.bK:=r;subst f;exact z2g I c .bK e h
 |bool b=>have f:x=.bl b:=r;subst f;exact z2g I c (.bl b) e h
 |int b=>have f:x=.int b:=r;subst f;exact z2g I c (.int b) e h
 |str b=>have f:x=.str b:=r.1;subst f;exact z2g I c (.str b) e h
 |tuple p=>obtain⟨a,k,rfl,g,_⟩:=r;cases c;obtain⟨_,_,⟨o,i,hc,_⟩,_⟩:=I.tuple g;exact W.kia_one W.kitx_tuple I.eN ⟨o,i,hc⟩ e (λz=>nomatch z) h
 |list p=>obtain⟨a,k,rfl,g,_⟩:=lV r;cases c;obtain⟨_,_,⟨o,_,i,hc,_⟩,_⟩:=I.list g;exact W.kia_one W.kitx_list I.eN ⟨o,i,hc⟩ e (λz=>nomatch z) h
 |dict es=>obtain⟨a,k,rfl,g,_⟩:=r;exact z2g I c (.dK g) e h
def Dq (K:Z5):List V->Hp->VK->Prop:=λxs H Q=>∃B x d T,xs=[x,.ty T]/\Rep K H B x d/\T∈tysB/\Q (.bl (jN (gP d) T)) H
theorem Qx:CallR X (.builtin "isinstance") (Dq X.K):=by
 rintro a s h H i j Q I r ⟨B,x,d,T,rfl,b,c,q⟩
 obtain⟨u,e,rfl,f,g⟩:=vals2 r;obtain rfl:e=ZU T:=g;exact zhe I f b c λk=>⟨.bl _,H,I.tok _,rfl,q⟩
theorem zvu (hm:X.mg "isinstance"=Z8)(hg:Gl X "isinstance")(hm2:X.mg x2=Z8)(hv2:c9 x2=Z9 (.type T))(hg2:Gl X x2)(hn2:x2≠"__name__")(hd2:Y4 x2)(hT:T∈tysB)(hs:isStar y=Z6)(ha:PE X y (tD X.K fa)):
  PE X (.Call (.Name "isinstance" p) [y,.Name x2 p2] [] pos) (tD X.K λρ=>fa ρ>>=λx=>.ok (.fr,.bool ([T].any λT=>jN (gP x.2) T))):=
 PE.imp (xO Qx hm (by decide+kernel) (gL ha (gL (NM (v:=.ty T) hg2 hm2 hv2 rfl hn2 hd2) mM) hs) (by simp[hs];rfl) hg dc dc) λσ H Q ⟨ρ,F,z,so,e,q⟩=>by obtain⟨x,e1,e⟩:=Res.aA e;cases e;refine⟨ρ,F,x,so,e1,λv H1 s1 rv=>?_⟩;refine⟨_,v,x.2,T,rfl,rv,hT,q _ H1 s1 ?_⟩;show V.bl _=V.bl _;simp
end
def Kp (B:Ad->Prop)(H1 H2:Hp):Prop:=∀a o,H1 a=Z9 o->(B (Z9 a)\/Fix o)->H2 a=Z9 o
theorem Kp.of (s:Same b c):Kp B b c:=λa o e _=>s a o e
structure Walk (K:Z5)(J:It)(B:Ad->Prop)(H1:Hp)(xs:List D):Prop where
 len:xs.length<=bj
 go:∀H2,Kp B H1 H2->∀i,i<xs.length->J.go i H2
 stop:∀H2,Kp B H1 H2->J.stop xs.length H2
 jI:∀H2,Kp B H1 H2->∀i x H3,i<xs.length->J.jI i H2 x H3->Same H2 H3/\∃d,xs[i]?=Z9 d/\Rep K H3 B x d
def tDW (K:Z5)(f:Rho->Res (G×List D)):TI:=λσ H R=>∃ρ F w,StOk K F H σ ρ/\f ρ=.ok w/\∀J B H',Same H H'->(∀a,B a->BG F H w.1 a/\¬nw H' a)->Walk K J B H' w.2->R J H'
theorem _root_.L2.PI.imp (h:PI X c e t)(i:∀a H Q,d a H Q->t a H Q):PI X c e d:=λb s a H Q I q=>h b s a H Q I (i a H Q q)
section
variable {K:Z5}{H:Hp}{B:Ad->Prop}
theorem Qy (h:(H a=Z9 (.lst c)/\B (Z9 a))\/(FL K H a c/\B Z8))(r:Reps K H B c g)(l:g.length<=bj):Walk K (Hy K a) B H g:=by
 have f:∀e,Kp B H e->SqL K e a c:=λe k=>by
  rcases h with⟨h,b⟩|⟨⟨o,h⟩|h,_⟩
  .exact .inl (.inl (k a _ h (.inl b)))
  .exact .inl (.inr ⟨o,k a _ h (.inr True.intro)⟩)
  .exact .inr h
 refine⟨l,λe k i j=>?_,λe k=>⟨c,f e k,by rw[r.length];exact ar _⟩,λe k i x q j y=>?_⟩
 .have m:i<c.length:=r.length▸j;exact⟨c,c[i],f e k,by simp[m]⟩
 .obtain⟨rfl,y⟩:=y;obtain⟨d,n,p⟩:=r.lR (y c (f _ k));exact⟨Same.refl _,d,n,Rep.keep k (λ_ z=>z) d p⟩
theorem Qz (h:cA K H a c)(r:Reps K H B c f)(j:f.length<=bj):Walk K (Hz K a) B H f:=by
 have e:∀b,Kp B H b->cA K b a c:=λb k=>h.keep k;refine⟨j,λb k i g=>?_,λb k=>⟨c,e b k,by rw[r.length];exact ar _⟩,λb k i x o g y=>?_⟩
 .have l:i<c.length:=r.length▸g;exact⟨c,c[i],e b k,by simp[l]⟩
 .obtain⟨rfl,y⟩:=y;obtain⟨d,m,n⟩:=r.lR (y c (e _ k));exact⟨Same.refl _,d,m,Rep.keep k (λ_ z=>z) d n⟩
theorem QA {b:Int}(e:n<=bj):Walk K (zZ b n) B H ((cr n).map λ(i:Nat)=>.int (b+i)):=by
 have c:((cr n).map λ(i:Nat)=>(Z0 (b+i):D)).length=n:=by simp
 refine⟨by rw[c];exact e,λd k i a=>?_,λd k=>?_,λd k i x f a y=>?_⟩
 .rw[c]at a;exact a
 .show n<=_;rw[c];simp_all
 .obtain⟨rfl,rfl⟩:=y;rw[c]at a;exact⟨Same.refl _,.int (b+i),by rw[bt,oy a];rfl,rfl⟩
end
section
variable {X:Cx}{tg a b c e:Expr}{es:List Expr}{fa fb fc:Rho->Res GD}{pos:Pos}
theorem z3z (c:Inv X i u g f)(r:RelV y v)(s:Rep X.K g B y d)(e:z53 d=.ok x)
  (q:∀J,Walk X.K J B g x->R J g):wpAny (model X.prog X.w) X.A (qp v) (wV X i u tg R) X.xe f:=by
 cases d<;>try (cases e;done)
 case list ds=>
  cases e;obtain⟨a,t,rfl,h,rs⟩:=s
  have j:SqL X.K g a t:=by
   rcases h with⟨h,_⟩|⟨h|h,_⟩
   .exact .inl (.inl h)
   .exact .inl (.inr h)
   .exact .inr h
  cases r;obtain⟨k,l,p,m⟩:=c.list j;refine k8 p.isList (⟨f.heap.objs.size,[f.heap.objs.size],_,_,g,rfl,c.kept λb o e=>ac _ e,N6 a _,⟨_,a7 _ rfl,rfl,rfl⟩,λb n=>?_,q _ (Qy h rs (rs.length▸m))⟩);have e:b=f.heap.objs.size:=by simpa using n
  subst e;exact c.lF (ar _) (c.hok.fresh (ar _))
 case tuple ds=>
  cases e;obtain⟨a,t,rfl,j,rs⟩:=s;cases r;obtain⟨k,l,p,m⟩:=c.tuple j;refine l8 p (⟨f.heap.objs.size,[f.heap.objs.size],_,_,g,rfl,c.kept λb o e=>ac _ e,N7 a _,⟨_,a7 _ rfl,rfl,rfl⟩,λb n=>?_,q _ (Qz j rs (rs.length▸m))⟩);have e:b=f.heap.objs.size:=by simpa using n
  subst e;exact c.lF (ar _) (c.hok.fresh (ar _))
theorem cE (i:PE X a (tD X.K fa)):PI X tg a (tDW X.K λρ=>fa ρ>>=λx=>z53 x.2>>=λg=>.ok (x.1,g)):=by
 rintro b s j H R I ⟨ρ,F,w,so,e,q⟩
 obtain⟨x,k,e⟩:=Res.aA e;obtain⟨g,l,e⟩:=Res.aA e;cases e;refine aN (i b s j H (λv c=>Same H c/\Rep X.K c (BG F H x.1) v x.2) I ⟨ρ,F,x,so,k,λv c h d=>⟨h,d⟩⟩) λv h m=>?_;obtain⟨y,c,n,o,f,d⟩:=m;exact z3z n o (Rep.there _ d) l λJ p=>q J _ c f (λ_ z=>z) p
theorem QB {n:Int}(a:n<=aU)(b:-aU<=n):-(2 ^ 62)<=n/\n<2 ^ 62:=by unfold aU at *;omega
theorem eG.one {K:Z5}(r:eG K F H H' vs [x]):∃v,vs=[v]/\Rep K H' (BG F H x.1) v x.2:=by obtain⟨v,t,e,h,q⟩:=r;subst e q;exact⟨v,rfl,h⟩
theorem eG.two {K:Z5}(r:eG K F H H' vs [x,y]):∃v w,vs=[v,w]/\Rep K H' (BG F H x.1) v x.2/\Rep K H' (BG F H y.1) w y.2:=by obtain⟨v,t,e,h,q⟩:=r;obtain⟨w,a,b⟩:=q.one;subst e a;exact⟨v,w,rfl,h,b⟩
theorem QC (hm:X.mg "range"=Z8)(l:Gl X "range")(hs:isStar a=Z6)(m:PA X [a] (tDA X.K fs))(o:∀c b,fs c=.ok b->b.length=1):PI X y (.Call (.Name "range" p) [a] [] pos) (tDW X.K λc=>fs c>>=λb=>jO (b.map (·.2))>>=λj=>.ok (.fr,j)):=
 PI.imp (Oa l hm m (gK hs)) λA H R ⟨c,F,w,so,e,q⟩=>by
  obtain⟨b,k,e⟩:=Res.aA e;obtain⟨j,f,e⟩:=Res.aA e;cases e;refine⟨c,F,b,so,k,λB r s rs=>?_⟩
  match b,(o c b k)with
  | [(g,d)],t=>
   obtain⟨v,rfl,u⟩:=rs.one;cases d<;>try (cases f;done)
   rename_i n;subst u;change(if n<=aU/\-aU<=n then Res.ok ((cr n.toNat).map λ(i:Nat)=>Z0 i)else .no)=_ at f;split at f
   case isFalse=>cases f
   rename_i hn;cases f;have h:=QB hn.1 hn.2;refine⟨n,rfl,h.1,h.2,q _ (λ_=>False) r s (λ_ z=>z.elim) ?_⟩;have x:((cr n.toNat).map λ(i:Nat)=>(Z0 i:D))=(cr n.toNat).map λi=>.int (0+i):=by apply t8;intro i _;rw[Int.zero_add]
   rw[x];exact QA (jX (by unfold aU at *;omega))
def Fm.drop (F:Fm)(i:Nat):Fm:={F with O:=λa=>if F.O a=Z9 i then Z8 else F.O a}
theorem Fm.bO {F:Fm}{a:Addr}(h:F.O a=Z8):(F.drop i).O a=none:=by show(if F.O a=Z9 i then Z8 else F.O a)=Z8;rw[h];rfl
theorem Bin.drop {a:Ad}(h:Bin F a):Bin (F.drop i) a:=by
 cases a with
 |none=>exact h
 |some a=>exact⟨Fm.bO h.1,h.2⟩
theorem Slot.drop {K:Z5}(a:j≠i)(h:Slot K F H j g v d):Slot K (F.drop i) H j g v d:=by
 cases g with
 |fr=>
  obtain⟨p,e,o,h⟩:=h;refine⟨p,e,?_,?_⟩
  .show(if F.O p=Z9 i then Z8 else F.O p)=Z9 j;rw[o,xq (λz=>a (xr z))]
  .rcases h with⟨c,f,k,l,r⟩|⟨c,f,k,l,r⟩
   .exact .inl ⟨c,f,k,l,r.weak λ_ b=>b.drop⟩
   .exact .inr ⟨c,f,k,l,bC.same (λ_ _ e=>e) (λ_ b=>b.drop) r⟩
 |od=>exact h
 |al=>exact h
 |nu=>exact Rep.weak (λ_ b=>b.drop) h
def BI (F:Fm):G->Ad->Prop
 |.od=>eX F
 |.fr=>bM F
 |.al=>bM F
 |.nu=>bM F
theorem BI.of {a:Ad}(b:∀a,H a=Z8->F.V a)(h:BG F H g a):BI F g a:=by
 cases g with
 |fr=>exact nw.aM b h
 |od=>exact h
 |al=>exact h
 |nu=>exact h.elim (nw.aM b) Bin.aM
theorem StOk.lW {K:Z5}(so:StOk K F H f h)(r:Rep K H (BI F x.1) v x.2):StOk K (F.drop i) H (f.set i (Z9 v)) (h.set i (Z9 (iZ x))) where
 ext:=so.ext
 aM:=so.aM
 own:=λa j e=>by
  have k:F.O a=Z9 j:=by
   have:(if F.O a=Z9 i then Z8 else F.O a)=Z9 j:=e;split at this
   .cases this
   .exact this
  exact so.own a j k
 len:=by rw[cu,cu];exact so.len
 sl:=λj g d e=>by
  by_cases c:i=j
  .subst c;rw[ig]at e;simp only[if_true]at e;split at e
   .rename_i l;have b:iZ x=(g,d):=by simpa using e
    refine⟨v,?_,?_⟩
    .rw[ig];simp[so.len,l]
    .obtain⟨m,dx⟩:=x;cases m with
     |fr=>cases b;exact r
     |od=>cases b;exact r
     |al=>cases b;exact r
     |nu=>cases b;exact r
   .cases e
  .rw[bz c]at e ⊢;obtain⟨u,n,o⟩:=so.sl j g d e;exact⟨u,n,o.drop λz=>c z.symm⟩
structure Keeps (F F':Fm)(is:List Nat)(σ σ':L2.St):Prop where
 h0:F'.H0=F.H0
 v:F'.V=F.V
 z:F'.z=F.z
 o:∀a,F.O a=Z8->F'.O a=Z8
 len:σ'.length=σ.length
 rest:∀j,j∉is->σ'[j]?=σ[j]?
theorem Keeps.refl:Keeps F F is σ σ:=⟨rfl,rfl,rfl,λ_ h=>h,rfl,λ_ _=>rfl⟩
theorem Keeps.set {v:Option V}(h:i∈is):Keeps F (F.drop i) is σ (σ.set i v):=⟨rfl,rfl,rfl,λ_ h=>Fm.bO h,cu,λj a=>bz λz=>a (by rw[<-z];exact h)⟩
theorem Keeps.trans (a:Keeps F F' is σ σ')(b:Keeps F' QD is σ' Dr):Keeps F QD is σ Dr:=⟨b.h0.trans a.h0,b.v.trans a.v,b.z.trans a.z,λx h=>b.o x (a.o x h),b.len.trans a.len,λj hj=>(b.rest j hj).trans (a.rest j hj)⟩
def tDG (K:Z5)(t:Tg):TG:=λv σ H Q=>∃ρ F x ρ',StOk K F H σ ρ/\Rep K H (BI F x.1) v x.2/\cZ t x ρ=.ok ρ'/\∀σ' F',StOk K F' H σ' ρ'->Keeps F F' (tgIx t) σ σ'->Q σ' H
theorem _root_.L2.PG.imp (h:PG X e t)(i:∀v σ H Q,t' v σ H Q->t v σ H Q):PG X e t':=λpins s σ H v u Q I r q=>h pins s σ H v u Q I r (i v σ H Q q)
theorem _root_.L2.PGs.imp {e:List Expr}(h:PGs X e t)(i:∀v σ H Q,t' v σ H Q->t v σ H Q):PGs X e t':=λpins s σ H v u Q I r q=>h pins s σ H v u Q I r (i v σ H Q q)
theorem QE (hN:X.N.Nodup)(a:X.N[i]?=Z9 x)(b:Loc X.env.scope x)(hf:X.fn x=Z7\/X.env.scope.names.lookup x=Z9 .local):PG X (.Name x pos) (tDG X.K (.nm i)):=PG.imp (Hx hN a b hf) λv d H Q ⟨f,F,x,c,so,r,e,q⟩=>by cases e;exact q _ _ (so.lW r) (Keeps.set (by simp[tgIx]))
def lX (K:Z5)(all is:List Nat):uN:=λvs σ H Q=>∃ρ F g ds ρ',(∀i∈is,i∈all)/\StOk K F H σ ρ/\Reps K H (BI F g) vs ds/\nZ ρ is ds g=Z9 ρ'/\∀σ' F',StOk K F' H σ' ρ'->Keeps F F' all σ σ'->Q σ' H
theorem QF:PGs X [] (lX X.K all []):=
 PGs.imp N3 λf b H Q ⟨h,F,g,a,c,_,so,r,e,q⟩=>by
  cases a with
  |nil=>cases e;exact⟨r,q b F so Keeps.refl⟩
  |cons d a=>cases e
theorem QG (hN:X.N.Nodup)(c:X.N[i]?=Z9 x)(u:Loc X.env.scope x)(hf:X.fn x=Z7\/X.env.scope.names.lookup x=Z9 .local)(h:PGs X es (lX X.K all is)):PGs X (.Name x p::es) (lX X.K all (i::is)):=
 PGs.imp (zit (Hx hN c u hf) h (by rfl)) λB C H Q ⟨w,F,g,l,m,f,so,r,e,q⟩=>by
  cases l with
  |nil=>cases e
  |cons d l=>
   obtain⟨v,t,rfl,s,y⟩:=r;refine⟨v,t,rfl,w.set i (Z9 (iZ (gJ d g,d))),F.drop i,g,l,m,λj z=>f j (av _ z),?_,?_,e,λn A o k=>q n A o ((Keeps.set (f i ah)).trans k)⟩
   .refine so.lW ?_;unfold gJ;by_cases c:imm d=Z7
    .rw[xp c];exact Rep.bG d c s
    .rw[xq c];exact s
   .exact y.weak λa b=>by cases g<;>exact b
theorem QH (x:X.calm=Z7)(h:PGs X es (lX X.K is is))(hn:(i7 es X.env).length=n)(p:(i7 es X.env).findIdx? (·.1)=Z8)(y:is.length=n):PG X (.Tuple es k pos) (tDG X.K (.tp is)):=
 λl s z H v u Q I A ⟨f,F,⟨g,d⟩,j,so,r,e,q⟩=>by
  have m:∀is b f c,nZ f is b g=Z9 c->is.length=b.length:=by
   intro is
   induction is with
   |nil=>intro b f c h;cases b with
    |nil=>rfl
    |cons _ _=>cases h
   |cons i is B=>intro b f c h;cases b with
    |nil=>cases h
    |cons d b=>rw[a8,a8,B b _ _ h]
  have t:∀b,Res.eE (nZ f is b g)=.ok j->nZ f is b g=Z9 j:=λb e=>by
   cases o:nZ f is b g with
   |none=>rw[o]at e;cases e
   |some c=>rw[o]at e;rw[Res.ok.inj e]
  cases d<;>try (cases e;done)
  case tuple b=>have o:=t b e;obtain⟨a,C,rfl,D,w⟩:=r;exact zsc x h hn p l s z H _ u Q I A ⟨a,C,rfl,D,by rw[w.length,<-m _ _ _ _ o];exact y,f,F,g,b,j,λ_ h=>h,so,w,o,q⟩
theorem StOk.blk {K:Z5}(so:StOk K F H s k)(m:Nat)(js:List Nat)(l:Addr)(u:List V)(c:H l=Z8):
  StOk K {F with V:=λa=>F.V a/\a≠l,O:=λ_=>Z8} (upd H l (.lst u)) (fE m js s) (bp m Z8++js.map λj=>iI (k.getD j Z8)) where
 ext:=λa o e=>by have:=so.ext a o e;rw[aS (dF this c)];exact this
 aM:=λa e=>by
  by_cases h:a=l
  .subst h;rw[bQ]at e;cases e
  .rw[aS h]at e;exact⟨so.aM a e,h⟩
 own:=λa i e=>by cases e
 len:=by unfold fE;simp
 sl:=λi g d e=>by
  have n:∀a,bM F a/\¬nw H a->bM {F with V:=λa=>F.V a/\a≠l,O:=λ_=>Z8} a:=λa h=>by
   cases a with
   |none=>exact h.1
   |some a=>exact⟨h.1,λz=>h.2 (z▸c)⟩
  have p:∀a,eX F a/\¬nw H a->eX {F with V:=λa=>F.V a/\a≠l,O:=λ_=>Z8} a:=λa h=>by
   cases a with
   |none=>exact h.1
   |some a=>exact⟨h.1.1,h.1.2,λz=>h.2 (z▸c)⟩
  rw[n8]at e;split at e
  .rw[gu]at e;split at e<;>cases e
  .rename_i w;rw[dz]at w e;rw[bt]at e;cases q:js[i-m]? with
   |none=>rw[q]at e;cases e
   |some j=>
    rw[q]at e;have b:iI (k.getD j Z8)=Z9 (g,d):=xr e;cases r:k[j]? with
    |none=>rw[az,r]at b;cases b
    |some o=>
     rw[az,r]at b;cases o with
     |none=>cases b
     |some gd=>
      obtain⟨t,d0⟩:=gd;obtain⟨v,x,f⟩:=so.sl j t d0 r;refine⟨v,?_,?_⟩
      .unfold fE;rw[fy (by grind),dz,bt,q];show Z9 (s.getD j Z8)=_;rw[az,x];rfl
      .cases t with
       |fr=>cases b;exact Rep.same (Same.upd c) n (Rep.there _ (f.rep so.iK))
       |od=>cases b;exact Rep.same (Same.upd c) p (Rep.there _ f)
       |al=>cases b;exact Rep.same (Same.upd c) n (Rep.there _ f)
       |nu=>cases b;exact Rep.same (Same.upd c) n (Rep.there _ (f.rep so.iK))
theorem Ds:∀l m r,jP f (l++m)=.ok r->∃a b,jP f l=.ok a/\jP f m=.ok b/\r=a++b
 | [],m,r,h=>⟨[],r,rfl,h,rfl⟩
 |x::l,m,r,h=>by
  obtain⟨o,c,h⟩:=Res.aA h;obtain⟨d,e,h⟩:=Res.aA h;obtain⟨a,b,g,i,rfl⟩:=Ds l m d e;cases h;refine⟨oc o a,b,?_,i,?_⟩
  .show(f x>>=λo=>jP f l>>=λr=>Res.ok (oc o r))=_;rw[c,Res.aB,g,Res.aB]
  .cases o<;>rfl
theorem eG.snoc {K:Z5}:∀{vs:List V} {xs:List GD} {v:V} {x:GD},eG K F H H' vs xs->Rep K H' (BG F H x.1) v x.2->eG K F H H' (vs++[v]) (xs++[x])
 |vs,[],v,x,r,h=>by have e:vs=[]:=r;subst e;exact⟨v,[],rfl,h,rfl⟩
 |vs,y::ys,v,x,r,h=>by obtain⟨u,t,rfl,h1,q⟩:=r;exact⟨u,t++[v],rfl,h1,q.snoc h⟩
theorem eG.keep {K:Z5}(d:∀a o g,f a=Z9 o->(BG F H g (Z9 a)\/Fix o)->h a=Z9 o):∀{c:List V} {xs:List GD},eG K F H f c xs->eG K F H h c xs
 |c,[],r=>r
 |c,y::ys,r=>by obtain⟨u,t,e,i,q⟩:=r;exact⟨u,t,e,Rep.keep (λa o e b=>d a o y.1 e b) (λ_ z=>z) _ i,q.keep d⟩
theorem eG.len {K:Z5}:∀{a:List V} {xs:List GD},eG K F H H' a xs->a.length=xs.length
 |a,[],r=>by have e:a=[]:=r;subst e;rfl
 |a,y::b,r=>by obtain⟨u,t,rfl,c,q⟩:=r;rw[a8,a8,q.len]
theorem IL:∀l r,jP f l=.ok r->r.length<=l.length
 | [],r,h=>by cases h;simp_all
 |x::l,r,h=>by
  obtain⟨o,c,h⟩:=Res.aA h;obtain⟨a,b,h⟩:=Res.aA h;have:=IL l a b;cases h;cases o with
  |none=>exact bo this (by simp)
  |some y=>simp only[oc,a8];omega
def zgk (nt:Nat)(js:List Nat)(t:Tg)(fw:Rho->Res (G×List D))(fc:Rho->Res Bool)(fe:Rho->Res GD):Rho->Res GD:=λρ=>fw ρ>>=λw=>jP (λx=>cZ t (gJ x w.1,x) (bp nt Z8++js.map λj=>iI (ρ.getD j Z8))>>=λρ1=>fc ρ1>>=λk=>if k then fe ρ1>>=λy=>.ok (Z9 y)else .ok Z8) w.2>>=λys=>.ok (qA ys,.list (ys.map (·.2)))
def QI (g:TG)(tc:TT)(te:TE)(em:L2.St->L2.St)(σ:L2.St)(Q:VK):It->Hp->Prop:=λJ H1=>∀l,H1 l=Z8->∃P:Nat->Nat->List V->Hp->Prop,(∃m,P 0 m [] (upd H1 l (.lst [])))/\∀i m acc H2,P i m acc H2->(J.stop i H2/\Q (.ref l) H2)\/(J.go i H2/\acc.length<bj/\∃N:List V->Hp->Prop,(∀lK H',N lK H'->∃m',m'<m/\P (i+1) m' lK H')/\∀x H3,J.jI i H2 x H3->g x (em σ) H3 λiX H4=>lJ (em σ) iX/\tc iX H4 λb H5=>if b=Z7 then te iX H5 λy H6=>H6 l=Z9 (.lst acc)/\N (acc++[y]) (upd H6 l (.lst (acc++[y])))else N acc H5)
abbrev CI (K:Z5)(F:Fm)(f:D->Res (Option GD))(ds:List D)(H1:Hp)(l:Nat)(i:Nat)(acc:List V)(H2:Hp):Prop:=H2 l=Z9 (.lst acc)/\(∀a o,H1 a=Z9 o->H2 a=Z9 o)/\∃ys,jP f (ds.take i)=.ok ys/\eG K F (upd H1 l (.lst [])) H2 acc ys
theorem zbj {fc:Rho->Res Bool}(ht0:∀i∈tgIx t,i<nt)(so:StOk X.K F H σ ρ)(e:zgk nt js t fw fc fe ρ=.ok z)(q:∀v D,Same H D->Rep X.K D (BG F H z.1) v z.2->Q v D):
  ∃w,fw ρ=.ok w/\∀J B D,Same H D->(∀a,B a->BG F H w.1 a/\¬nw D a)->Walk X.K J B D w.2->QI (tDG X.K t) (eA X.K fc) (tD X.K fe) (fE nt js) σ Q J D:=by
 obtain⟨w,W,e⟩:=Res.aA e;obtain⟨Y,e2,e⟩:=Res.aA e;cases e;refine⟨w,W,λJ B s s1 hB wk l I=>?_⟩;generalize hr:(bp nt Z8++js.map λj=>iI (ρ.getD j Z8))=cT at e2;generalize hf:(λx=>cZ t (gJ x w.1,x) cT>>=λn=>fc n>>=λk=>if k then fe n>>=λy=>Res.ok (Z9 y)else .ok Z8)=f at e2;have ye:=so.same s1;have sF:∀i,∃S,jP f (w.2.take i)=.ok S:=λi=>by rw[<-nr i w.2]at e2;obtain⟨r1,r2,T,_,_⟩:=Ds _ _ _ e2;exact⟨r1,T⟩
 let L:Fm:={F with V:=λa=>F.V a/\a≠l,O:=λ_=>Z8}
 refine zvj (CI X.K L f w.2 s l) wk.len ?_ ?_ ?_ ?_ ?_
 .exact⟨bQ,λa o e=>by rw[aS (dF e I)];exact e,[],rfl,rfl⟩
 .rintro i p U ⟨_,_,S,M,rs⟩
  rw[rs.len];have:=IL _ _ M;rw[f8]at this;omega
 .rintro p U ⟨T,E,S,M,rs⟩
  rw[List.take_length]at M;rw[e2]at M;cases M;refine⟨wk.stop U (λa o e _=>E a o e),q _ _ (λa o e=>E a o (s1 a o e)) ?_⟩;have IM:=s1.none I;refine⟨l,p,rfl,.inl ⟨T,?_⟩,rs.jW λx hx a hb=>?_⟩
  .show BG F H (qA Y) (Z9 l);unfold qA;split
   .exact IM
   .exact so.aM l IM
  .unfold qA;by_cases ea:(Y.all λx=>x.1==.fr)=Z7
   .rw[xp ea];have qG:x.1=.fr:=by simpa using a9.mp ea x hx
    rw[qG]at hb;cases a with
    |none=>exact hb
    |some a=>
     have Aq:upd s l (.lst []) a=none:=hb
     have:s a=none:=by
      by_cases c:a=l
      .subst c;exact I
      .rw[aS c]at Aq;exact Aq
     exact s1.none this
   .rw[xq ea];have:bM L a:=BG.aM (λa e=>((ye.blk nt js l [] I).aM a e)) hb;cases a with
    |none=>exact this
    |some a=>exact this.1
 .rintro i p U N ⟨_,E,_⟩
  exact wk.go U (λa o e _=>E a o e) i N
 .rintro i p U x H3 N ⟨T,E,S,M,rs⟩ y
  obtain⟨s3,d,hd,rx⟩:=wk.jI U (λa o e _=>E a o e) i x H3 N y;obtain⟨qH,A⟩:=sF (i+1);have P:w.2.take (i+1)=w.2.take i++[d]:=by rw[List.take_add_one,hd];rfl
  rw[P]at A;obtain⟨r1,r2,g1,g2,g3⟩:=Ds _ _ _ A;rw[M]at g1;cases g1;obtain⟨o,C,g2⟩:=Res.aA g2;obtain⟨r3,g5,g2⟩:=Res.aA g2;cases g5;rw[<-hf]at C;obtain⟨n,k1,C⟩:=Res.aA C;obtain⟨k,k2,C⟩:=Res.aA C
  have sb:StOk X.K L H3 (fE nt js σ) cT:=by
   rw[<-hr];refine(ye.blk nt js l p I).same λa o e=>s3 a o ?_;by_cases c:a=l
   .subst c;rw[bQ]at e;rw[T];exact e
   .rw[aS c]at e;exact E a o e
  have yf:Rep X.K H3 (BI L (gJ d w.1)) x d:=by
   unfold gJ;by_cases N:imm d=Z7
   .rw[xp N];exact Rep.bG d N rx
   .rw[xq N];refine rx.weak λa b=>?_;obtain⟨r,b2⟩:=hB a b;have G:=BI.of so.aM r;cases a with
    |none=>cases hw:w.1<;>rw[hw]at G<;>exact G
    |some a=>
     have c:a≠l:=λz=>b2 (by rw[z];exact I);cases hw:w.1<;>rw[hw]at G
     .exact⟨G,c⟩
     .exact⟨G.1,G.2,c⟩
     .exact⟨G,c⟩
     .exact⟨G,c⟩
  refine⟨_,L,(gJ d w.1,d),n,sb,yf,k1,λiX R qI h=>⟨⟨h.len.symm,λj v hj=>?_⟩,n,R,k,qI,k2,λH5 s5=>?_⟩⟩
  .by_cases IP:j∈tgIx t
   .have :=ht0 j IP;unfold fE at hj;rw[jl (dz▸this),gu,xp this]at hj;cases hj
   .rw[h.rest j IP];exact hj
  .have h5:∀a o,s a=Z9 o->H5 a=Z9 o:=λa o e=>s5 a o (s3 a o (E a o e));have u:=s5 _ _ (s3 _ _ T);have IQ:=rs.keep λa o g e _=>s5 a o (s3 a o e);cases k with
   |false=>cases C;cases g2;refine gH ⟨u,h5,S,?_,IQ⟩;rw[P,A,g3];simp[oc]
   |true=>
    obtain⟨yv,k3,C⟩:=Res.aA C;cases C;cases g2;refine gI ⟨n,R,yv,qI.same s5,k3,λv H6 s6 rv=>⟨s6 _ _ u,bQ,λa o e=>?_,S++[yv],?_,?_⟩⟩
    .rw[aS (dF e I)];exact s6 a o (h5 a o e)
    .rw[P,A,g3];rfl
    .have QJ:=s6 _ _ u
     have hk:∀a o g,H6 a=Z9 o->(BG L (upd s l (.lst [])) g (Z9 a)\/Fix o)->upd H6 l (.lst (p++[v])) a=Z9 o:=λa o g e b=>by
      have c:a≠l:=by
       intro z;subst z;rcases b with b|b
       .cases g with
        |fr=>have m:upd s a (.lst []) a=none:=b;rw[bQ]at m;cases m
        |od=>exact b.2.2 rfl
        |al=>exact b.2 rfl
        |nu=>
         rcases b with b|b
         .have m:upd s a (.lst []) a=none:=b;rw[bQ]at m;cases m
         .exact b.2.2.2 rfl
       .rw[QJ]at e;cases e;exact b
      rw[aS c];exact e
     have QK:Rep X.K H6 (BG L (upd s l (.lst [])) yv.1) v yv.2:=by
      refine rv.weak λa b=>?_;cases hg:yv.1 with
      |fr=>
       rw[hg]at b;cases a with
       |none=>exact b
       |some a=>
        have m:H5 a=none:=b;show upd s l (.lst []) a=Z8;rw[aS (λz=>by rw[z,u]at m;cases m)];cases W:s a with
        |none=>rfl
        |some o=>rw[h5 a o W]at m;cases m
      |nu=>
       rw[hg]at b;cases a with
       |none=>exact b
       |some a=>
        rcases b with b|b
        .have m:H5 a=none:=b;refine .inl ?_;show upd s l (.lst []) a=Z8;rw[aS (λz=>by rw[z,u]at m;cases m)];cases W:s a with
         |none=>rfl
         |some o=>rw[h5 a o W]at m;cases m
        .refine .inr ⟨rfl,?_,?_⟩
         .have:=b.2.1;rw[h.h0]at this;exact this
         .have:=b.2.2;rw[h.v]at this;exact this
      |od=>
       rw[hg]at b;cases a with
       |none=>have r:R.z:=b;rw[h.z]at r;exact r
       |some a=>have r:R.H0 a≠Z8/\R.V a:=b;rw[h.h0,h.v]at r;exact r
      |al=>
       rw[hg]at b;cases a with
       |none=>have r:R.z:=b;rw[h.z]at r;exact r
       |some a=>have r:R.V a:=b;rw[h.v]at r;exact r
     exact((IQ.keep λa o g e _=>s6 a o e).snoc QK).keep hk
theorem QL {fc:Rho->Res Bool}(ht0:∀i∈tgIx t,i<nt):∀σ H Q,tD X.K (zgk nt js t fw fc fe) σ H Q->Ab (tDW X.K fw) (tDG X.K t) (eA X.K fc) (tD X.K fe) (fE nt js) σ H Q:=by
 rintro σ H Q ⟨ρ,F,z,so,e,q⟩
 obtain⟨w,e1,h⟩:=zbj ht0 so e q;exact⟨ρ,F,w,so,e1,h⟩
theorem zjo {fc:Rho->Res Bool}(hc:X.calm=Z7)(Bk:BlkScope X scope N' nt js)(ht0:∀i∈tgIx t,i<nt)(hi:PI X tg iter (tDW X.K fw))
  (hg:∀C fp s H,PG (blk X scope N' C fp s H) tg (tDG X.K t)) (ht:∀C fp s H,pY (blk X scope N' C fp s H) ifs (eA X.K fc)) (he:∀C fp s H,PE (blk X scope N' C fp s H) elt (tD X.K fe)) (hs:∀x,g7 iter X.env x=pure x):
  PE X (.ListComp elt [⟨tg,iter,ifs,0⟩] scope pos) (tD X.K (zgk nt js t fw fc fe))/\∀σ H Q,tD X.K (zgk nt js t fw fc fe) σ H Q->Ab (tDW X.K fw) (tDG X.K t) (eA X.K fc) (tD X.K fe) (fE nt js) σ H Q:=by
 have main:=QL (X:=X) (js:=js) (fw:=fw) (fc:=fc) (fe:=fe) ht0;exact⟨PE.imp (zhn hc Bk hi hg ht he hs) main,main⟩
end
def BC (H:Hp)(A:Ad->Prop):G->Ad->Prop
 |.fr=>nw H
 |.od=>λa=>nw H a\/A a
 |.al=>λa=>nw H a\/A a
 |.nu=>nw H
def spD (K:Z5)(n:Nat)(m:Fn):Sp:=λvs H Q _=>∃A ds x,vs.length=n/\Reps K H A vs ds/\m ds=.ok x/\∀v H',Same H H'->Rep K H' (BC H A x.1) v x.2->Q v H'
section
variable {X:Cx}{tg a b c e o:Expr}{es:List Expr}{fa fb fc:Rho->Res GD}{pos:Pos}
theorem zp9 (o:Cal X.prog X.w X.K X.mg X.base k x ps (spD X.K n m))(hr:Room s X.A)(t:k<=s)(u:PA X (e::es) (tDA X.K fs))(g:((e::es).all fun e=> !isStar e)=Z7)(c:Gl X x)(i:Y4 x)
  (y:∀d b,fs d=.ok b->b.length=n):PE X (.Call (.Name x p) (e::es) [] pos) (tD X.K λd=>fs d>>=λb=>m (b.map (·.2))>>=λr=>.ok (gJ r.2 (fO r.1),r.2)):=
 PE.imp (za1 o hr u g t c i) λI H Q ⟨d,F,z,so,e,q⟩=>by
  obtain⟨b,j,e⟩:=Res.aA e;obtain⟨r,B,e⟩:=Res.aA e;cases e;refine⟨d,F,b,so,j,λC l f rs=>?_⟩;show spD X.K n m (C++[]) l Q E0;rw[dg];refine⟨_,_,r,by rw[rs.len];exact y d b j,rs.gS so.aM,B,λv D E G=>q v D (f.trans E) (qE G λa h=>?_)⟩;have al:(nw l a\/bM F a)->bM F a:=λh=>h.elim (λh=>(nw.back f h).aM so.aM) λh=>h;cases c:r.1 with
  |fr=>rw[c]at h;exact nw.back f h
  |od=>rw[c]at h;exact al h
  |al=>rw[c]at h;exact al h
  |nu=>rw[c]at h;exact nw.back f h
def rMt (K:Z5)(m:String):V->List V->Hp->VK->Prop:=λx xs H Q=>∃B B' dx ds d,Rep K H B x dx/\Reps K H B' xs ds/\mtD m dx ds=.ok d/\∀w H',Same H H'->Rep K H' (λa=>nw H a\/B a\/B' a) w d->Q w H'
theorem z8 (h:CT o=Z7):uh o n env w=w:=by
 unfold uh;split
 .rename_i id p a;cases h
 .rfl
theorem IS:∀{es:List Expr},(es.all λe=> !isStar e)=Z7->(oh pos (fh es env)).all (λx=> !x.1)=Z7
 | [],_=>rfl
 |e::es,h=>by have h:=b6.mp (fq▸h);rw[gK (by simpa using h.1)];show(Z7&&(oh pos (fh es env)).all (λx=>!x.1))=Z7;rw[IS h.2];rfl
theorem zf8 (h:(es.all fun e=> !isStar e)=Z7)(a:es.length<20):((oh cpos (fh es env)).all (fun x=> !x.1)&&(backToKw cpos (wm [] env)).all (fun x=>x.1.isSome)
  &&decide (es.length+([]:List vc).length+(if([]:List vc).isEmpty then 0 else 1)<30))=true:=by
 rw[IS h];show(Z7&&Z7&&decide (es.length+0+0<30))=Z7;rw[xz (by omega)];rfl
theorem d_mt {id:String}(pa:PlainAttrs T)(slot:PySem.Slot T n id)(l:wf (.builtin id)=pure (.type "method_descriptor"))(hm:MtR X id (rMt X.K m))(A:∀H B x dx C d,Rep X.K H B x dx->mtD m dx C=.ok d->tyV X.K T x H)
  (D:PE X o (tD X.K fa)) (E:PA X (e::es) (tDA X.K fs)) (p:CT o=Z7) (f:((e::es).all λe=>!isStar e)=Z7) (G:(e::es).length<20) (c:(g.endLine==i.line)=Z7):
  PE X (.Call (.Attribute o n g) (e::es) [] i) (tD X.K λj=>fa j>>=λx=>fs j>>=λr=>mtD m x.2 (r.map (·.2))>>=λd=>.ok (gJ d .al,d)):=by
 have b:=f;rw[fq,ax]at b;refine PE.imp (zp6 pa slot l hm D E (z8 p) (zf8 f G) c (gK (by simpa using b.1)) (nU b.2)) λP H Q I=>?_;obtain⟨j,F,z,so,e,q⟩:=I;obtain⟨x,J,e⟩:=Res.aA e;obtain⟨r,L,e⟩:=Res.aA e;obtain⟨d,u,e⟩:=Res.aA e;cases e;refine⟨j,F,x,so,J,λv M k y=>⟨A M _ v x.2 _ d y u,j,F,r,so.same k,L,λR S s rs=>?_⟩⟩;refine⟨_,_,x.2,_,d,y.same s λ_ z=>z,rs.gS (so.same k).aM,u,λw N O t=>q w N ((k.trans s).trans O) (qE t λa h=>?_)⟩;rcases h with h|h|h
 .exact(nw.back (k.trans s) h).aM so.aM
 .exact h.aM so.aM
 .exact h
theorem QM (hu:X.A.units+64<cLine):MtR X "dict.get" (rMt X.K "get"):=by
 rintro f s y H x C v D Q I h rs ⟨B,E,dx,F,d,i,j,e,q⟩
 simp only[mtD,if_true]at e;split at e
 .rename_i es k d0;split at e
  case isFalse=>cases e
  rename_i l;cases e;obtain⟨G,J,rfl,m,n⟩:=yd j;obtain⟨kk,rfl,rfl,_⟩:=yb l m;obtain⟨a,kvs,rfl,g1,_,g2⟩:=i;cases h;obtain⟨L,M,rfl,o,p⟩:=vals2 rs;have b:=g2.val kk;refine zr3 (by omega) I (DGet.k g1) o p λN O r c=>⟨_,H,r,c,q _ H (Same.refl H) ?_⟩;cases g:fV es (kD kk)with
  |none=>rw[g]at b;rw[show dO kvs kk=Z8 from b];exact n.weak λ_ z=>.inr (.inr z)
  |some P=>rw[g]at b;obtain⟨w,t,u⟩:=b;rw[t];exact u.weak λ_ z=>.inr (.inl z)
 .cases e
theorem QN (r:Rep X.K H B x dx)(e:mtD "get" dx ds=.ok d):tyV X.K "dict" x H:=by
 simp only[mtD,if_true]at e;split at e
 .obtain⟨a,kvs,rfl,g1,_,_⟩:=r;exact .inr (.inr ⟨rfl,kvs,g1⟩)
 .cases e
theorem IT {K:Z5}:∀{a:List D} {b:List Str} {f:List V} {g:List Value},dI a=Z9 b->Reps K H B f a->Vals f g->StrsAre g b/\∀s∈b,Z3 s=Z7
 | [],b,f,g,e,r,q=>by cases e;have c:=r;subst c;cases q;exact⟨.nil,λ_ h=>nomatch h⟩
 |d::a,b,f,g,e,r,q=>by
  cases d<;>try (cases e;done)
  rename_i z;change(dI a).map (z:: ·)=_ at e;cases c:dI a with
  |none=>rw[c]at e;cases e
  |some j=>
   rw[c]at e;cases e;obtain⟨v,t,rfl,i,k⟩:=r;have ev:=i.1;subst ev;cases q with
   |cons l m=>
    obtain⟨n,rfl⟩:=l;obtain⟨o,p⟩:=IT c k m;refine⟨.cons z n o,λs hs=>?_⟩;rcases(aw.mp hs)with rfl|hs
    .exact i.2
    .exact p s hs
theorem QO (z:Str)(b:List Str):Txt.join z b=qC z b:=by
 have go:∀(r:List Str) a,(r.foldl (λa p=>a++z.cps++p.cps) a).toList=a.toList++(r.map λp=>z.cps.toList++p.cps.toList).flatten:=by
  intro r
  induction r with
  |nil=>intro a;simp
  |cons p r c=>intro a;rw[kr,c];simp
 cases b with
 |nil=>rfl
 |cons x r=>
  have:=go r x.cps;show(⟨r.foldl (λa p=>a++z.cps++p.cps) x.cps⟩:Str)=⟨(x.cps.toList++(r.map λp=>z.cps.toList++p.cps.toList).flatten).toArray⟩
  congr 1
  rw[<-this]
theorem QP (hz:Z3 z=Z7)(h:∀s∈ss,Z3 s=Z7):Z3 (qC z ss)=true:=
 qF.mpr λc hc=>by
  have iB:c∈Af z.cps.toList ss:=by simpa[qC]using hc
  cases ss with
  |nil=>simp[Af]at iB
  |cons x r=>
   simp only[Af,cf,qi,a6]at iB;rcases iB with iB|⟨l,⟨p,hp,rfl⟩,iB⟩
   .exact qF.mp (h x ah) c iB
   .rcases cf.mp iB with iB|iB
    .exact qF.mp hz c iB
    .exact qF.mp (h p (av _ hp)) c iB
theorem QQ:MtR X "str.join" (rMt X.K "join"):=by
 rintro c s o H x p v r Q I g rs ⟨B,w,dx,y,d,f,h,e,q⟩
 simp only[mtD,show("join":String)≠"get" by decide,if_true,if_false]at e;split at e
 .rename_i z A;split at e
  case h_2=>cases e
  rename_i C b;split at e
  case isFalse=>cases e
  rename_i i;cases e;obtain⟨D,rfl,j⟩:=uY h;obtain⟨a,E,rfl,l,rl⟩:=lV j;obtain⟨u,rfl,rfl⟩:=vals1 rs;have ex:=f.1;subst ex;obtain⟨t,rfl⟩:=g;obtain⟨m,n,pl,_⟩:=I.list l;obtain⟨sa,ok⟩:=IT b rl n;refine join_list pl.isList (by simpa using sa) (bo i (by unfold aU;decide)) λF k=>?_;rw[QO];exact⟨.str _,H,I.tok _,⟨_,rfl⟩,q _ H (Same.refl H) ⟨rfl,QP f.2 ok⟩⟩
 .cases e
theorem QR (r:Rep X.K H B x dx)(e:mtD "join" dx ds=.ok d):tyV X.K "str" x H:=by
 simp only[mtD,show("join":String)≠"get" by decide,if_true,if_false]at e;split at e
 .have ex:x=.str _:=r.1;subst ex;exact rfl
 .cases e
end
def bY (F:Fm)(H:Hp)(F':Fm)(H':Hp):Prop:=∀a o,H a=Z9 o->F.O a=Z8->H' a=Z9 o/\F'.O a=Z8
theorem bY.refl:bY F H F H:=λ_ _ e o=>⟨e,o⟩
theorem bY.trans (a:bY F H f g)(b:bY f g c d):bY F H c d:=λx o e n=>by obtain⟨h,n1⟩:=a x o e n;exact b x o h n1
theorem bY.same (s:Same H b):bY F H F b:=λa o e n=>⟨s a o e,n⟩
def Run (F F':Fm):Prop:=Same F.H0 F'.H0/\F'.V=F.V/\F'.z=F.z
theorem Run.refl:Run F F:=⟨λ_ _ e=>e,rfl,rfl⟩
theorem Run.trans (a:Run F d)(b:Run d c):Run F c:=⟨λx o e=>b.1 x o (a.1 x o e),b.2.1.trans a.2.1,b.2.2.trans a.2.2⟩
theorem Run.of (h:a.H0=F.H0)(v:a.V=F.V)(z:a.z=F.z):Run F a:=⟨λ_ _ e=>by rw[h];exact e,v,z⟩
def BR (F:Fm):G->Ad->Prop
 |.fr=>λa=>match a with|some a=>F.H0 a=Z8|none=>False
 |.od=>bM F
 |.al=>bM F
 |.nu=>λa=>match a with|some a=>F.H0 a=Z8|none=>False
def sG (K:Z5)(F:Fm)(H:Hp)(D:Ends):Out->Prop
 |.nx ρ'=>∀σ' H' F',StOk K F' H' σ' ρ'->Run F F'->bY F H F' H'->D.nx σ' H'
 |.rt g d=>∀v H',(∀a o,F.H0 a=Z9 o->H' a=Z9 o)->Rep K H' (BR F g) v d->D.rt v H'
def tDS (K:Z5)(f:Rho->Res Out):TS:=λD σ H=>∃ρ F out,StOk K F H σ ρ/\f ρ=.ok out/\sG K F H D out
theorem none_of (s:Same H b)(h:b a=Z8):H a=none:=by
 cases e:H a with
 |none=>rfl
 |some o=>rw[s a o e]at h;cases h
theorem BR.run (r:Run F c)(h:BR c g a):BR F g a:=by obtain⟨d,e,f⟩:=r;cases g<;>cases a<;>first|exact h|(exact none_of d h)|(have b:c.V _:=h;rw[e]at b;exact b)|(have b:c.z:=h;rw[f]at b;exact b)
theorem sG.back {K:Z5}{D:Ends}(r:Run F m)(f:bY F H m n)(h:sG K F H D i):sG K m n D i:=by
 cases i with
 |nx p=>exact λj c l so q s=>h j c l so (r.trans q) (f.trans s)
 |rt g d=>exact λv c k t=>h v c (λa o e=>k a o (r.1 a o e)) (t.weak λ_ b=>b.run r)
section
variable {X:Cx}{tg a b c e:Expr}{es:List Expr}{fa fb fc:Rho->Res GD}{pos:Pos}{st:Stmt}{rest A Bs:List Stmt}{fs gs:Rho->Res Out}
theorem QS:PSs X [] (tDS X.K λa=>.ok (.nx a)):=PSs.imp N0 λD b H ⟨a,F,c,so,e,q⟩=>by cases e;exact q b H F so Run.refl bY.refl
theorem QT (j:PS X st (tDS X.K fs))(k:PSs X rest (tDS X.K gs)):PSs X (st::rest) (tDS X.K λa=>oE (fs a) gs):=
 PSs.imp (zW j k) λD o H ⟨a,F,b,so,e,q⟩=>by
  have e:oE (fs a) gs=.ok b:=e;cases c:fs a with
  |no=>rw[c]at e;cases e
  |exc x=>rw[c]at e;cases e
  |ok l=>
   rw[c]at e;cases l with
   |nx h=>exact⟨a,F,.nx h,so,c,λm p n i r f=>⟨h,n,b,i,e,q.back r f⟩⟩
   |rt g d=>cases e;exact⟨a,F,.rt g d,so,c,q⟩
theorem Dt (hc:PT X c (eA X.K ft))(f:PSs X A (tDS X.K fs))(g:PSs X h (tDS X.K gs)):PS X (.If c A h pos) (tDS X.K λa=>ft a>>=λk=>if k then fs a else gs a):=
 PS.imp (Hw hc f g) λD j H ⟨a,F,b,so,e,q⟩=>by
  obtain⟨k,i,e⟩:=Res.aA e;refine⟨a,F,k,so,i,λl d=>?_⟩;cases k with
  |true=>exact gI ⟨a,F,b,so.same d,e,q.back Run.refl (bY.same d)⟩
  |false=>exact gH ⟨a,F,b,so.same d,e,q.back Run.refl (bY.same d)⟩
theorem QU {K:Z5}(so:∀a o,F.H0 a=Z9 o->H a=Z9 o)(hv:∀a,H a=Z8->F.V a)(r:Rep K H' (BG F H g) v d):Rep K H' (BR F (fO g)) v d:=by
 refine r.weak λa b=>?_;cases g with
 |fr=>
  cases a with
  |none=>exact b
  |some a=>exact Same.none so b
 |od=>exact eX.aM b
 |al=>exact b
 |nu=>
  cases a with
  |none=>exact b.elim id id
  |some a=>exact b.elim (λb=>Same.none so b) λb=>b.2.1
theorem QV (c:PE X e (tD X.K fa)):PS X (.Return (Z9 e) pos) (tDS X.K λb=>fa b>>=λx=>.ok (.rt (fO x.1) x.2)):=PS.imp (zX c) λD j H ⟨b,F,d,so,e,q⟩=>by obtain⟨x,f,e⟩:=Res.aA e;cases e;exact⟨b,F,x,so,f,λv g h i=>q v g (λa o e=>h a o (so.ext a o e)) (QU so.ext so.aM i)⟩
theorem Slot.ret {K:Z5}(so:∀a i,F.O a=Z9 i->F.H0 a=Z8/\F.V a)(h:Slot K F H i g v d):Rep K H (BR F (if imm d then .fr else fO g)) v d:=by
 by_cases c:imm d=Z7
 .rw[xp c];exact Rep.bG d c (h.rep λa i e=>(so a i e).2)
 .rw[xq c];cases g with
  |fr=>
   obtain⟨p,e,o,h⟩:=h
   have k:∀a,Bin F a->BR F .fr a:=λa b=>by
    cases a with
    |none=>exact b
    |some a=>exact b.2.1
   rcases h with⟨f,l,rfl,j,r⟩|⟨f,l,rfl,j,r⟩
   .exact⟨p,f,e,.inl ⟨j,(so _ _ o).1⟩,r.weak k⟩
   .exact⟨p,f,e,j,(so _ _ o).1,bC.same (λ_ _ e=>e) k r⟩
  |od=>exact Rep.weak (λ_ b=>b.aM) h
  |al=>exact h
  |nu=>
   refine Rep.weak (λa b=>?_) h;cases a with
   |none=>exact b
   |some a=>exact b.2.1
theorem z3o {i:Nat}(hN:X.N[i]?=Z9 x)(hv:Vis X.env.scope x)(hd:Y4 x)(hcd:(x==("__classdict__":Str))=Z6):
  PS X (.Return (Z9 (.Name x p)) pos) (tDS X.K λρ=>match ρ[i]? with|some (Z9 (g,d))=>.ok (.rt (if imm d then .fr else fO g) d)|_=>.no):=
 PS.imp (zX (pW hN hv hd hcd)) λD σ H ⟨ρ,F,out,so,e,q⟩=>by
  have e:(match ρ[i]? with|some (Z9 (g,d))=>Res.ok (Out.rt (if imm d then .fr else fO g) d)|_=>.no)=.ok out:=e;cases e1:ρ[i]? with
  |none=>rw[e1]at e;cases e
  |some o=>
   rw[e1]at e;cases o with
   |none=>cases e
   |some gd=>obtain⟨g,d⟩:=gd;cases e;obtain⟨v,h1,h2⟩:=so.sl i g d e1;exact⟨v,h1,q v H so.ext (h2.ret λa i e=>⟨(so.own a i e).1,(so.own a i e).2.1⟩)⟩
theorem QW (hs:z2a e=Z6)(c:PE X e (tD X.K fa)):PS X (.Expr e pos) (tDS X.K λa=>fa a>>=λ_=>.ok (.nx a)):=PS.imp (nV c hs) λD d H ⟨a,F,f,so,e,q⟩=>by obtain⟨x,g,e⟩:=Res.aA e;cases e;exact⟨a,F,x,so,g,λv h b i=>q d h F (so.same b) Run.refl (bY.same b)⟩
theorem bC.bG {K:Z5}:∀{kvs:List (Key×V)} es,bV es=Z7->bC K H B kvs es->bC K H B' kvs es
 |kvs,[],_,r=>r
 |kvs,(kd,d)::es,i,r=>by unfold bV at i;rw[fq,ax]at i;obtain⟨k,v,t,e,a,ok,h,q⟩:=r;exact⟨k,v,t,e,a,ok,Rep.bG d i.1 h,bC.bG es i.2 q⟩
theorem StOk.fH {K:Z5}(so:StOk K F H d ρ){a:Ad}(h:nw H a):Bin F a:=by
 cases a with
 |none=>exact h
 |some a=>
  refine⟨?_,Same.none so.ext h,so.aM a h⟩;cases b:F.O a with
  |none=>rfl
  |some j=>obtain⟨_,_,z⟩:=so.own a j b;rcases z with⟨c,z⟩|⟨c,z⟩<;>rw[h]at z<;>cases z
theorem StOk.Du {K:Z5}(so:StOk K F H σ ρ)(r:Rep K H (Bin F) v d):StOk K (F.drop i) H (σ.set i (Z9 v)) (ρ.set i (Z9 (.nu,d))):=by
 have z:=so.lW (i:=i) (x:=(.al,d)) (Rep.weak (λ_ b=>Bin.aM b) r);refine⟨z.ext,z.aM,z.own,by rw[cu,cu];exact so.len,λj g d' e=>?_⟩;by_cases hj:i=j
 .subst hj;rw[ig]at e;simp only[if_true]at e;split at e
  .rename_i hl;cases e;exact⟨v,by rw[ig];simp[so.len,hl],Rep.weak (λ_ b=>b.drop) r⟩
  .cases e
 .refine z.sl j g d' ?_;rw[bz hj]at e ⊢;exact e
def Fm.take (F:Fm)(i:Nat)(p:Addr):Fm:={F with O:=λa=>if a=p then Z9 i else if F.O a=Z9 i then Z8 else F.O a}
theorem bY.drop (s:Same H H'):bY F H (F.drop i) H':=λa o e n=>⟨s a o e,Fm.bO n⟩
theorem StOk.setA {K:Z5}(so:StOk K F H Q R)(t:Same H s)(r:Rep K s (BG F H x.1) v x.2):
  ∃f,StOk K f s (Q.set i (Z9 v)) (R.set i (Z9 (z1l x)))/\Run F f/\bY F H f s:=by
 have w:=so.same t;obtain⟨g,d⟩:=x
 have l:z1l (g,d)=iZ (if imm d then .al else Il g,d)->∃f,StOk K f s (Q.set i (Z9 v)) (R.set i (Z9 (z1l (g,d))))/\Run F f/\bY F H f s:=λe=>by
  rw[e];refine⟨F.drop i,w.lW ?_,Run.of rfl rfl rfl,bY.drop t⟩;by_cases k:imm d=Z7
  .rw[xp k];exact Rep.bG d k r
  .rw[xq k];cases g with
   |fr=>exact r.weak λ_ b=>nw.aM so.aM b
   |od=>exact r
   |al=>exact r
   |nu=>exact r.weak λ_ b=>b.elim (nw.aM so.aM) Bin.aM
 have A:z1l (g,d)=(.nu,d)->(∀a,BG F H g a->Bin F a)->∃f,StOk K f s (Q.set i (Z9 v)) (R.set i (Z9 (z1l (g,d))))/\Run F f/\bY F H f s:=λe E=>by rw[e];exact⟨F.drop i,w.Du (Rep.weak E r),Run.of rfl rfl rfl,bY.drop t⟩
 have own:∀p,F.O p=Z8->H p=Z8->F.H0 p=Z8->F.V p->v=.ref p->z1l (g,d)=(.fr,d)->(∀f,(∀a,Bin F a\/nw H a->a≠Z9 p->Bin f a)->f.O p=Z9 i->Slot K f s i .fr v d)->(((∃I,s p=Z9 (.lst I))\/∃kvs,s p=Z9 (.dK kvs)))->
   ∃f,StOk K f s (Q.set i (Z9 v)) (R.set i (Z9 (z1l (g,d))))/\Run F f/\bY F H f s:=λp U c X Y ev es Z J=>by
  have B:∀a,a≠p->(F.take i p).O a=(F.drop i).O a:=λa ha=>by show(if a=p then Z9 i else _)=_;rw[xq ha];rfl
  have QX:∀a,H a=Z8->F.O a=none:=λa e=>by
   cases C:F.O a with
   |none=>rfl
   |some j=>obtain⟨_,_,h⟩:=so.own a j C;rcases h with⟨I,h⟩|⟨I,h⟩<;>rw[e]at h<;>cases h
  have y:∀a,Bin F a\/nw H a->a≠Z9 p->Bin (F.take i p) a:=λa b cU=>by
   cases a with
   |none=>exact b.elim id id
   |some a=>have q:a≠p:=λz=>cU (by rw[z]);have E:=b.elim id λb=>⟨QX a b,(λa e=>Same.none so.ext e) a b,so.aM a b⟩;exact⟨by rw[B a q];exact Fm.bO E.1,E.2⟩
  have L:(F.take i p).O p=Z9 i:=by show(if p=p then Z9 i else _)=_;rw[xp rfl]
  refine⟨F.take i p,⟨w.ext,w.aM,λa j e=>?_,by rw[cu,cu];exact so.len,λj g' d' e=>?_⟩,Run.of rfl rfl rfl,λa o e n=>⟨t a o e,?_⟩⟩
  .by_cases q:a=p
   .subst q;exact⟨X,Y,J⟩
   .rw[B a q]at e
    have e':F.O a=Z9 j:=by
     have:(if F.O a=Z9 i then Z8 else F.O a)=Z9 j:=e;split at this
     .cases this
     .exact this
    exact w.own a j e'
  .by_cases hj:i=j
   .subst hj;rw[ig]at e;simp only[if_true]at e;split at e
    .rename_i hl;have C:z1l (g,d)=(g',d'):=by simpa using e
     rw[es]at C;cases C;exact⟨v,by rw[ig];simp[so.len,hl],Z _ y L⟩
    .cases e
   .rw[bz hj]at e ⊢;obtain⟨u,h1,S⟩:=so.sl j g' d' e;refine⟨u,h1,?_⟩;cases g' with
    |fr=>
     obtain⟨T,C,o1,h3⟩:=S;refine⟨T,C,?_,?_⟩
     .rw[B T (λz=>by rw[z,U]at o1;cases o1)];show(if F.O T=Z9 i then Z8 else F.O T)=Z9 j;rw[o1,xq (λz=>hj (xr z).symm)]
     .have M:∀a,Bin F a/\¬nw H a->Bin (F.take i p) a:=λa b=>y a (.inl b.1) λz=>b.2 (z▸c);rcases h3 with⟨G,D,e3,e2,r3⟩|⟨G,D,e3,e2,r3⟩
      .exact .inl ⟨G,D,e3,t _ _ e2,Reps.same t M (Reps.there _ r3)⟩
      .exact .inr ⟨G,D,e3,t _ _ e2,bC.same t M (bC.there _ r3)⟩
    |od=>exact Rep.same t (λ_ b=>b) S
    |al=>exact Rep.same t (λ_ b=>b) S
    |nu=>exact Rep.same t (λa b=>y a (.inl b.1) λz=>b.2 (z▸c)) (Rep.there _ S)
  .have q:a≠p:=λz=>by rw[z,c]at e;cases e
   rw[B a q];exact Fm.bO n
 have N:∀p,H p=Z8->F.O p=none:=λp c=>by
  cases C:F.O p with
  |none=>rfl
  |some j=>obtain⟨_,_,P⟩:=so.own p j C;rcases P with⟨I,P⟩|⟨I,P⟩<;>rw[c]at P<;>cases P
 by_cases k:imm d=Z7
 .exact l (by show(if imm d then _ else _)=_;rw[xp k];rw[xp k];rfl)
 .cases g with
  |od=>exact l (by delta z1l;simp only[xq k];rfl)
  |al=>exact l (by delta z1l;simp only[xq k];cases d<;>rfl)
  |nu=>exact A (by delta z1l;simp only[xq k]) λa b=>b.elim so.fH id
  |fr=>
   cases d with
   |none=>exact absurd rfl k
   |bool b=>exact absurd rfl k
   |int b=>exact absurd rfl k
   |str b=>exact absurd rfl k
   |tuple D=>exact A (by delta z1l;simp only[xq k]) λa b=>so.fH b
   |list D=>
    by_cases m:imms D=Z7
    .obtain⟨p,G,ev,h,rs⟩:=r;rcases h with⟨h,b⟩|⟨_,b⟩
     .have c:H p=none:=b;exact own p (N p c) c (Same.none so.ext c) (so.aM p c) ev (by delta z1l;simp only[xq k,xp m]) (λf E ho=>⟨p,ev,ho,.inl ⟨G,D,rfl,h,Reps.bG D m rs⟩⟩) (.inl ⟨G,h⟩)
     .exact b.elim
    .exact A (by delta z1l;simp only[xq k,xq m]) λa b=>so.fH b
   |dict es=>
    by_cases m:bV es=Z7
    .obtain⟨p,kvs,ev,h,b,rs⟩:=r;have c:=b;exact own p (N p c) c (Same.none so.ext c) (so.aM p c) ev (by delta z1l;simp only[xq k,xp m]) (λf E ho=>⟨p,ev,ho,.inr ⟨kvs,es,rfl,h,bC.bG es m rs⟩⟩) (.inr ⟨kvs,h⟩)
    .exact A (by delta z1l;simp only[xq k,xq m]) λa b=>so.fH b
theorem IU {K:Z5}{te:TE}(h:∀a H Q,tD K fa a H Q->te a H Q)(D:Ends)(a:L2.St)(H:Hp)(q:tDS K (λb=>fa b>>=λx=>.ok (.nx (b.set i (Z9 (z1l x))))) D a H):te a H λv c=>D.nx (a.set i (Z9 v)) c:=by obtain⟨b,F,g,so,e,q⟩:=q;obtain⟨x,j,e⟩:=Res.aA e;cases e;refine h a H _ ⟨b,F,x,so,j,λv c k l=>?_⟩;obtain⟨m,d,r,f⟩:=so.setA k l;exact q _ c m d r f
theorem zv1 (hN:X.N.Nodup)(b:X.N[i]?=Z9 x)(c:Loc X.env.scope x)(hf:X.fn x=Z7\/X.env.scope.names.lookup x=Z9 .local)(hs:n4 e (Z9 (.Name x px)) pos.line X.env=pure Z6)(d:PE X e (tD X.K fa)):
  PS X (.Assign [.Name x px] e pos) (tDS X.K λa=>fa a>>=λx=>.ok (.nx (a.set i (Z9 (z1l x))))):=
 PS.imp (zkf hN b c d hs hf) λD f H q=>IU (λ_ _ _ h=>h) D f H q
theorem zq0 (j:PG X te (tDG X.K (.tp is)))(k:PE X e (tD X.K fa))(hs:ue [te] e pos.line X.env=pure Z6)(l:uf [te] e X.env=pure Z8)(m:(i7 [te] X.env).map (·.2)=[ur te X.env]):
  PS X (.Assign [te] e pos) (tDS X.K λf=>fa f>>=λx=>cZ (.tp is) x f>>=λd=>.ok (.nx d)):=
 PS.imp (zsx k j hs l m) λD y H ⟨f,F,p,so,e,q⟩=>by obtain⟨x,r,e⟩:=Res.aA e;obtain⟨d,s,e⟩:=Res.aA e;cases e;refine⟨f,F,x,so,r,λv t i u=>⟨f,F,x,d,so.same i,u.weak λ_ b=>BI.of so.aM b,s,λg w h c=>?_⟩⟩;exact q g t w h (Run.of c.h0 c.v c.z) λa o e n=>⟨i a o e,c.o a n⟩
theorem StOk.settle {K:Z5}(so:StOk K F H σ ρ)(hn:noOwn ρ=Z7):StOk K ⟨H,F.V,λ_=>Z8,F.z⟩ H σ (ρ.map Mi.settle):=by
 refine⟨λ_ _ e=>e,so.aM,λa i e=>(by cases e),(by rw[af];exact so.len),λi g d e=>?_⟩;rw[bt]at e;cases e2:ρ[i]? with
 |none=>rw[e2]at e;cases e
 |some sl=>
  rw[e2]at e;have e3:=xr e;have hf:=a9.mp hn sl (bx e2);cases sl with
  |none=>cases e3
  |some x=>
   obtain⟨g0,d0⟩:=x
   have old:∀{B:Ad->Prop} {v:V},(∀a,B a->bM F a)->Rep K H B v d0->Rep K H (eX ⟨H,F.V,λ_=>Z8,F.z⟩) v d0:=λhB h=>(Rep.there d0 h).weak λa ⟨b1,b2⟩=>by
    cases a with
    |none=>exact hB _ b1
    |some a=>exact⟨b2,hB _ b1⟩
   obtain⟨v,hv,h⟩:=so.sl i g0 d0 e2;cases g0 with
   |fr=>cases hf
   |od=>cases e3;exact⟨v,hv,old (λa b=>by cases a with|none=>exact b|some a=>exact b.2) h⟩
   |nu=>cases e3;exact⟨v,hv,old (λa b=>Bin.aM b) h⟩
   |al=>
    cases hi:imm d0 with
    |true=>
     have e4:Mi.settle (Z9 (.al,d0))=Z9 (.al,d0):=by show(if imm d0=Z7 then _ else _)=_;rw[hi];rfl
     rw[e4]at e3;cases e3;exact⟨v,hv,h⟩
    |false=>
     have e4:Mi.settle (Z9 (.al,d0))=Z9 (.od,d0):=by show(if imm d0=Z7 then _ else _)=_;rw[hi];rfl
     rw[e4]at e3;cases e3;exact⟨v,hv,old (λ_ b=>b) h⟩
theorem StOk.cV {K:Z5}(so:StOk K F H σ ρ):StOk K ⟨H,F.V,λ_=>Z8,F.z⟩ H σ (ρ.map Mi.cV):=by
 refine⟨λ_ _ e=>e,so.aM,λa i e=>(by cases e),(by rw[af];exact so.len),λi g d e=>?_⟩;rw[bt]at e;cases e2:ρ[i]? with
 |none=>rw[e2]at e;cases e
 |some sl=>
  rw[e2]at e;have e3:=xr e;cases sl with
  |none=>cases e3
  |some x=>
   obtain⟨g0,d0⟩:=x;obtain⟨v,hv,h⟩:=so.sl i g0 d0 e2;have r:=h.rep λa i e=>(so.own a i e).2.1;have e3:(if imm d0 then Z9 (G.al,d0)else Z9 (G.od,d0))=Z9 (g,d):=e3;refine⟨v,hv,?_⟩;split at e3
   .cases e3;exact r
   .cases e3
    exact Rep.weak (λa ⟨b1,b2⟩=>by
     cases a with
     |none=>exact b1
     |some a=>exact⟨b2,b1⟩) (Rep.there _ r)
theorem Ar {K:Z5}(so:StOk K F H σ ρ)(h:okIn y=Z7)(r:Rep K H1 (BG F H y.1) u y.2):Rep K H1 (Bin F) u y.2:=by
 obtain⟨g,d⟩:=y;rcases gf.mp h with hi|hg
 .exact Rep.bG d hi r
 rcases gf.mp hg with h|h
 .cases eq_of_beq h;exact Rep.weak (λa b=>so.fH b) r
 .cases eq_of_beq h;exact Rep.weak (λa b=>b.elim so.fH id) r
theorem StOk.mutate {K:Z5}(so:StOk K F H σ ρ)(hO:F.O p=Z9 i)(hσ:σ[i]?=Z9 (Z9 (.ref p)))(ho':(∃xs,o'=.lst xs)\/∃kvs,o'=.dK kvs)
  (hs:Slot K F (upd H p o') i .fr (.ref p) d'):StOk K F (upd H p o') σ ((ρ.set i (Z9 (.fr,d'))).map dW)/\bY F H F (upd H p o'):=by
 obtain⟨h0,hV,Dv⟩:=so.own p i hO;have cU:∀a,F.O a=Z8->a≠p:=λa e z=>by rw[z,hO]at e;cases e
 have oM:∀a o,H a=Z9 o->Fix o->a≠p:=λa o e f z=>by subst z;rcases Dv with⟨xs,h⟩|⟨xs,h⟩<;>rw[e]at h<;>cases h<;>exact f
 refine⟨⟨λa o e=>?_,λa e=>?_,λa j e=>?_,by rw[af,cu];exact so.len,λj g d e=>?_⟩,(λa o e n=>⟨by rw[aS (cU a n)];exact e,n⟩)⟩
 .have oN:a≠p:=λz=>by rw[z,h0]at e;cases e
  rw[aS oN];exact so.ext a o e
 .by_cases oN:a=p
  .subst oN;exact hV
  .rw[aS oN]at e;exact so.aM a e
 .obtain⟨x1,x2,x3⟩:=so.own a j e;refine⟨x1,x2,?_⟩;by_cases oN:a=p
  .subst oN;rw[bQ];rcases ho' with⟨xs,rfl⟩|⟨xs,rfl⟩
   .exact .inl ⟨xs,rfl⟩
   .exact .inr ⟨xs,rfl⟩
  .rw[aS oN];exact x3
 .rw[bt]at e;by_cases hj:i=j
  .subst hj;have hl:i<ρ.length:=by rw[<-so.len];exact(bc.mp hσ).1
   rw[ig]at e;simp only[if_true,hl]at e;cases(by simpa using e);exact⟨_,hσ,hs⟩
  .rw[bz hj]at e;cases e2:ρ[j]? with
   |none=>rw[e2]at e;cases e
   |some sl=>
    rw[e2]at e;have e3:dW sl=Z9 (g,d):=by simpa using e
    cases sl with
    |none=>cases e3
    |some gd=>
     obtain⟨g0,d0⟩:=gd;obtain⟨v,h1,h2⟩:=so.sl j g0 d0 e2;refine⟨v,h1,?_⟩;cases g0 with
     |fr=>
      cases e3;obtain⟨p',e4,o4,h3⟩:=h2;have As:p'≠p:=λz=>by rw[z,hO]at o4;simp_all
      have hk:∀a o,H a=Z9 o->(Bin F (Z9 a)\/Fix o)->upd H p o' a=Z9 o:=λa o e b=>by have:a≠p:=b.elim (λb=>cU a b.1) λf=>oM a o e f;rw[aS this];exact e
      refine⟨p',e4,o4,?_⟩;rcases h3 with⟨vs,ds,e5,e6,r⟩|⟨vs,ds,e5,e6,r⟩
      .exact .inl ⟨vs,ds,e5,by rw[aS As];exact e6,Reps.keep hk (λ_ z=>z) ds r⟩
      .exact .inr ⟨vs,ds,e5,by rw[aS As];exact e6,bC.keep hk (λ_ z=>z) ds r⟩
     |od=>cases e3;exact Rep.keep (λa o e b=>by have:a≠p:=b.elim (λb z=>by have b1:F.H0 a≠Z8/\F.V a:=b;rw[z]at b1;exact b1.1 h0) λf=>oM a o e f;rw[aS this];exact e) (λ_ z=>z) _ h2
     |nu=>cases e3;exact Rep.keep (λa o e b=>by have:a≠p:=b.elim (λb=>cU a b.1) λf=>oM a o e f;rw[aS this];exact e) (λ_ z=>z) _ h2
     |al=>
      change(if imm d0 then Z9 (G.al,d0)else Z8)=_ at e3;split at e3
      .rename_i yg;cases e3;exact Rep.jU (λa o e f=>by rw[aS (oM a o e f)];exact e) _ yg h2
      .cases e3
theorem Au {K:Z5}(so:StOk K F H σ ρ)(e:ρ[i]?=Z9 (Z9 (.fr,d))):∃p,σ[i]?=Z9 (Z9 (.ref p))/\F.O p=Z9 i/\((∃vs ds,d=.list ds/\H p=Z9 (.lst vs)/\Reps K H (Bin F) vs ds)\/(∃kvs es,d=.dict es/\H p=Z9 (.dK kvs)/\bC K H (Bin F) kvs es)):=by obtain⟨v,h1,p,rfl,o,h⟩:=so.sl i .fr d e;exact⟨p,h1,o,h⟩
def yh (m:String)(i:Nat)(fs:Rho->Res (List GD)):Rho->Res Out:=λρ=>fs ρ>>=λys=>match ρ[i]? with
 |some (Z9 (.fr,.list xs))=>jQ m xs ys>>=λuV=>.ok (.nx ((ρ.set i (Z9 (.fr,.list uV))).map dW))
 |_=>.no
theorem zh8 {fs:Rho->Res (List GD)}(hN:X.N[i]?=Z9 x)(C:Vis X.env.scope x)(hd:Y4 x)(l:(x==("__classdict__":Str))=Z6)(E:PA X (e::es) (tDA X.K fs))(g:((e::es).all fun e=>!isStar e)=Z7)(G:(e::es).length<20)(d:(I.endLine==J.line)=Z7):
  PS X (.Expr (.Call (.Attribute (.Name x p) "append" I) (e::es) [] J) pos) (tDS X.K (yh "append" i fs)):=by
 have c:=g;rw[fq,ax]at c;refine PS.imp (nV (zp6 PySem.F.plainAttrs_list PySem.F.slot_list_append PySem.F.type_list_append Ic (pW hN C hd l) E rfl (zf8 g G) d (gK (by simpa using c.1)) (nU c.2)) rfl) λD L H M=>?_;obtain⟨P,F,Q,so,e,q⟩:=M;obtain⟨R,S,e⟩:=Res.aA e;split at e
 .rename_i T hr;obtain⟨U,f,e⟩:=Res.aA e;cases e;obtain⟨pa,v,m,h⟩:=Au so hr;rcases h with⟨j,ds,n,w,r⟩|⟨_,_,n,_⟩
  .cases n;refine⟨_,v,.inl ⟨rfl,j,SqL.of w⟩,P,F,R,so,S,λus V k rs=>?_⟩;simp only[jQ,if_true]at f;split at f
   .rename_i y;split at f
    case isFalse=>cases f
    rename_i hc;cases f;rw[b6,decide_eq_true_iff]at hc;obtain⟨u,rfl,W⟩:=rs.one;have A:=k _ _ w;refine⟨pa,j,u,rfl,rfl,A,jX (by rw[r.length];omega),?_⟩
    have Y:Reps X.K (upd V pa (.lst (j++[u]))) (Bin F) (j++[u]) (T++[y.2]):=by
     refine Reps.keep (λa o e b=>?_) (λ_ z=>z) _ (Reps.append (r.same k λ_ z=>z) ⟨u,[],rfl,Ar so hc.1 W,rfl⟩)
     have s:a≠pa:=by
      intro z;subst z;rcases b with b|b
      .have B:F.O a=none:=b.1;rw[m]at B;cases B
      .rw[A]at e;cases e;exact b
     rw[aS s];exact e
    obtain⟨t,Z⟩:=(so.same k).mutate m v (.inl ⟨_,rfl⟩) ⟨pa,rfl,m,.inl ⟨_,_,rfl,bQ,Y⟩⟩;exact q L _ F t Run.refl ((bY.same k).trans Z)
   .cases f
  .cases n
 .cases e
end
section
variable {X:Cx}{e:Expr}{es:List Expr}{pos:Pos}
theorem zo7 {D:Ends}(so:StOk X.K F H σ ρ)(s1:Same H H1)(hO:F.O pa=Z9 i)(h1:σ[i]?=Z9 (Z9 (.ref pa)))(e4:H pa=Z9 (.lst vs))(r0:Reps X.K H1 (Bin F) ws zs)
  (q:sG X.K F H D (.nx ((ρ.set i (Z9 (.fr,.list zs))).map dW))):D.nx σ (upd H1 pa (.lst ws)):=by
 have e5:=s1 _ _ e4
 have r':Reps X.K (upd H1 pa (.lst ws)) (Bin F) ws zs:=by
  refine Reps.keep (λa o e b=>?_) (λ_ z=>z) _ r0
  have oN:a≠pa:=by
   intro z;subst z;rcases b with b|b
   .have b1:F.O a=none:=b.1;rw[hO]at b1;cases b1
   .rw[e5]at e;cases e;exact b
  rw[aS oN];exact e
 obtain⟨Dw,f2⟩:=(so.same s1).mutate hO h1 (.inl ⟨_,rfl⟩) ⟨pa,rfl,hO,.inl ⟨_,_,rfl,bQ,r'⟩⟩;exact q σ _ F Dw Run.refl ((bY.same s1).trans f2)
end
section
variable {X:Cx}{tg a b c e:Expr}{es:List Expr}{fa fb fc:Rho->Res GD}{pos:Pos}{st:Stmt}{rest A Bs:List Stmt}{fs gs:Rho->Res Out}
theorem Dx (k c:Key):eqK (kD c) (kD k)=decide (c=k):=by
 cases c<;>cases k
 .rename_i a b;show(a==b)=_;rw[nq,decide_eq_decide];exact⟨λh=>by rw[h],λh=>Sum.inl.inj h⟩
 .rfl
 .rfl
 .rename_i a b;show decide (a=b)=_;rw[decide_eq_decide];exact⟨λh=>by rw[h],λh=>Sum.inr.inj h⟩
theorem bC.any {K:Z5}(k:Key):∀{kvs:List (Key×V)} {es:cR},bC K H B kvs es->(es.any λe=>eqK e.1 (kD k))=kvs.any λa=>decide (a.1=k)
 |kvs,[],r=>by have e:kvs=[]:=r;subst e;rfl
 |kvs,(kd,d)::es,r=>by obtain⟨c,v,t,e,b,_,_,q⟩:=r;subst e b;rw[p7,p7,q.any k,Dx]
theorem bC.lY {K:Z5}(k:Key)(h:Rep K H B v d):∀{kvs:List (Key×V)} {es:cR},bC K H B kvs es->bC K H B (kvs.map λa=>if a.1=k then(a.1,v)else a) (es.map λe=>if eqK e.1 (kD k)then(e.1,d)else e)
 |kvs,[],r=>by have e:kvs=[]:=r;subst e;exact rfl
 |kvs,(kd,d0)::es,r=>by
  obtain⟨b,f,t,e,g,ok,h0,q⟩:=r;subst e g;rw[bg,bg];have c:=q.lY k h;by_cases z:b=k
  .subst z;rw[xp rfl,xp (by rw[Dx];simp)];exact⟨b,v,_,rfl,rfl,ok,h,c⟩
  .rw[xq z,xq (by rw[Dx];simpa using z)];exact⟨b,f,_,rfl,rfl,ok,h0,c⟩
theorem bC.app {K:Z5}(ok:keyOk k)(h:Rep K H B v d):∀{kvs:List (Key×V)} {es:cR},bC K H B kvs es->bC K H B (kvs++[(k,v)]) (es++[(kD k,d)])
 |kvs,[],r=>by have e:kvs=[]:=r;subst e;exact⟨k,v,[],rfl,rfl,ok,h,rfl⟩
 |kvs,(kd,d0)::es,r=>by obtain⟨b,c,t,e,f,a,h0,q⟩:=r;subst e f;exact⟨b,c,_,rfl,rfl,a,h0,q.app ok h⟩
theorem bC.put {K:Z5}(ok:keyOk k)(h:Rep K H B v d){es:cR}(r:bC K H B kvs es):bC K H B (putK kvs k v) (dput es (kD k) d):=by
 unfold putK dput;rw[r.any k];split
 .exact r.lY k h
 .exact r.app ok h
def Dy (td ty tv:TE):TS:=λD σ H=>tv σ H λv H1=>td σ H1 λx H2=>ty σ H2 λy H3=>(∃a H4,x=.ref a/\DPut H3 a y v H4/\D.nx σ H4)\/HZ x y v H3 λH4=>D.nx σ H4
theorem QY (hu:X.A.units+1<cLine)(p:PE X o q)(t:PE X i ty)(w:PE X value tv)(hs:n4 value (Z9 (.Subscript o i d)) pos.line X.env=pure Z6):PS X (.Assign [.Subscript o i d] value pos) (Dy q ty tv):=by
 intro b s c H D I h;refine wpAny_Assign_Subscript (aN (w b s c H _ I h) λr z ⟨v,B,C,k,E⟩=>aN (p b z c B _ C E) λu F ⟨x,G,J,l,K⟩=>aN (t b F c G _ J K) λL M ⟨y,N,m,n,e⟩=>?_) hs;rcases e with⟨a,f,ex,g,e⟩|e
 .subst ex;obtain rfl:u=ZV a:=l;exact zdg hu m g n k λO j=>⟨c,f,j,e⟩
 .exact aN (set_list b M c N x y v u L r _ m l n k e) λ_ O ⟨f,j,P⟩=>⟨c,f,j,P⟩
def Dz (i:Nat)(fv fk:Rho->Res GD):Rho->Res Out:=λρ=>fv ρ>>=λy=>fk ρ>>=λx=>match ρ[i]? with
 |some (Z9 (.fr,.dict es))=>if jK x.2&&okIn y&&decide (es.length<aU)then .ok (.nx ((ρ.set i (Z9 (.fr,.dict (dput es x.2 y.2)))).map dW))else .no
 |some (Z9 (.fr,.list xs))=>(match x.2 with
  |.int j=>if okIn y then(match iT xs.length j with|some n=>.ok (.nx ((ρ.set i (Z9 (.fr,.list (xs.set n y.2)))).map dW))|none=>.no)else .no
  |_=>.no)
 |_=>.no
theorem zz6 (hu:X.A.units+64<cLine)(hN:X.N[i]?=Z9 x)(Y:Vis X.env.scope x)(hd:Y4 x)(J:(x==("__classdict__":Str))=Z6)(hs:z2a value=Z6)(hk:PE X Z (tD X.K fk))(L:PE X value (tD X.K fv)):
  PS X (.Assign [.Subscript (.Name x p) Z T] value pos) (tDS X.K (Dz i fv fk)):=by
 refine PS.imp (QY (by omega) (pW hN Y hd J) hk L (uQ hs _ _ _)) λD U H zz=>?_;obtain⟨M,F,out,so,e,q⟩:=zz;obtain⟨y,e1,e⟩:=Res.aA e;obtain⟨P,V,e⟩:=Res.aA e;refine⟨M,F,y,so,e1,λv H1 Q rv=>?_⟩;have c:=so.same Q;split at e
 .rename_i es hr;split at e
  case isFalse=>cases e
  rename_i B;cases e;rw[ax,ax,decide_eq_true_eq]at B;obtain⟨f,E,l,h⟩:=Au c hr;rcases h with⟨_,_,m,_⟩|⟨s,fX,m,R,r⟩
  .cases m
  .cases m;refine⟨_,E,M,F,P,c,V,λw C d g=>.inl ?_⟩;obtain⟨k,ek,rfl,ok⟩:=yb B.1.1 g;have G:=d _ _ R;refine⟨f,_,rfl,DPut.k G (r.length▸b8 B.2 (jX (ar _))),?_⟩
   have hk:∀a o,C a=Z9 o->(Bin F (Z9 a)\/Fix o)->upd C f (.dK (putK s k v)) a=Z9 o:=λa o e b=>by
    have t:a≠f:=by
     intro z;subst z;rcases b with b|b
     .have I:F.O a=none:=b.1;rw[l]at I;cases I
     .rw[G]at e;cases e;exact b
    rw[aS t];exact e
   have r':bC X.K (upd C f (.dK (putK s k v))) (Bin F) (putK s k v) (dput es P.2 y.2):=by rw[ek];exact bC.keep hk (λ_ z=>z) _ (bC.put ok (Ar so B.1.2 (rv.same d λ_ z=>z)) (r.same d λ_ z=>z))
   obtain⟨u,S⟩:=(c.same d).mutate l E (.inr ⟨_,rfl⟩) ⟨f,rfl,l,.inr ⟨_,_,rfl,bQ,r'⟩⟩;exact q U _ F u Run.refl ((bY.same (Q.trans d)).trans S)
 .rename_i xs hr;split at e
  case h_2=>cases e
  rename_i j hj;split at e
  case isFalse=>cases e
  rename_i B;split at e
  case h_2=>cases e
  rename_i n hn;cases e;obtain⟨f,E,l,h⟩:=Au c hr;rcases h with⟨W,ds,m,R,r⟩|⟨_,_,m,_⟩
  .cases m;refine⟨_,E,M,F,P,c,V,λw C d g=>.inr ?_⟩;rw[hj]at g;subst g;have G:=d _ _ R;refine⟨f,W,j,n,rfl,rfl,G,by rw[r.length];exact hn,?_⟩
   have hk:∀a o,C a=Z9 o->(Bin F (Z9 a)\/Fix o)->upd C f (.lst (W.set n v)) a=Z9 o:=λa o e b=>by
    have t:a≠f:=by
     intro z;subst z;rcases b with b|b
     .have I:F.O a=none:=b.1;rw[l]at I;cases I
     .rw[G]at e;cases e;exact b
    rw[aS t];exact e
   obtain⟨u,S⟩:=(c.same d).mutate l E (.inl ⟨_,rfl⟩) ⟨f,rfl,l,.inl ⟨_,_,rfl,bQ,(Reps.keep hk (λ_ z=>z) _ (Reps.set (Ar so B (rv.same d λ_ z=>z)) n (r.same d λ_ z=>z)))⟩⟩;exact q U _ F u Run.refl ((bY.same (Q.trans d)).trans S)
  .cases m
 .cases e
def tDF (K:Z5)(f:Rho->Res (G×List D×Rho)):TI:=λσ H R=>∃ρ F w,StOk K F H σ ρ/\f ρ=.ok w/\∀J B H' F',Same H H'->Run F F'->bY F H F' H'->StOk K F' H' σ w.2.2->(∀a,B (Z9 a)->F'.O a=Z8)->(∀a,B a->BI F' w.1 a)->Walk K J B H' w.2.1->R J H'
theorem DA {K:Z5}(so:StOk K F H i k){a:Addr}(f:g≠.al)(h:BG F H g (Z9 a)):F.O a=none:=by
 cases d:F.O a with
 |none=>rfl
 |some j=>
  obtain⟨h0,_,b⟩:=so.own a j d;cases g with
  |fr=>have c:=h;rcases b with⟨e,b⟩|⟨e,b⟩<;>rw[c]at b<;>cases b
  |od=>exact absurd h0 h.1
  |al=>exact absurd rfl f
  |nu=>
   rcases h with h|h
   .have c:H a=none:=h;rcases b with⟨e,b⟩|⟨e,b⟩<;>rw[c]at b<;>cases b
   .have c:F.O a=none:=h.1;rw[c]at d;cases d
theorem IV (h:PI X i e (tDW X.K j)):PI X i e (tDF X.K λc=>j c>>=λw=>if w.1==.al then .no else .ok (w.1,w.2,c)):=
 PI.imp h λo H R ⟨c,F,w,so,e,q⟩=>by
  obtain⟨k,l,e⟩:=Res.aA e;refine⟨c,F,k,so,l,λJ B m d g n=>?_⟩;split at e
  .cases e
  .rename_i f;cases e;exact q J B m F d Run.refl (bY.same d) (so.same d) (λa b=>DA so (λz=>f (by rw[z];rfl)) (g _ b).1) (λa b=>BI.of so.aM (g a b).1) n
theorem StOk.giveUp {K:Z5}(so:StOk K F H σ ρ)(e:ρ[i]?=Z9 (Z9 (.fr,d))):StOk K (F.drop i) H σ (ρ.set i (Z9 (.al,d))):=by
 obtain⟨v,h1,h2⟩:=so.sl i .fr d e;have:=so.lW (i:=i) (x:=(.al,d)) (h2.rep so.iK)
 have es:σ.set i (Z9 v)=σ:=by
  apply vt;intro j;by_cases hj:i=j
  .subst hj;rw[ig];simp only[if_true,(bc.mp h1).1];exact h1.symm
  .rw[bz hj]
 rw[es]at this;exact this
theorem QZ (hN:X.N[i]?=Z9 x)(o:Vis X.env.scope x)(hd:Y4 x)(h:(x==("__classdict__":Str))=Z6):PI X T (.Name x pos) (tDF X.K (Ag i)):=by
 rintro c s t H R I ⟨U,F,w,so,e,q⟩
 unfold Ag at e;split at e
 .rename_i d hr;obtain⟨W,z,e⟩:=Res.aA e;cases e;obtain⟨v,A,C⟩:=so.sl i .fr d hr;refine aN (pW hN o hd h c s t H (λu f=>u=v/\f=H) I ⟨v,A,rfl,rfl⟩) λu Y D=>?_;obtain⟨y,f,E,G,g,L⟩:=D;subst g L
  let B:Ad->Prop:=λa=>match a with|some a=>(F.drop i).O a=Z8/\F.V a|none=>False
  have M:Rep X.K f B y d:=by
   obtain⟨p,g,l,P⟩:=C
   have m:∀a,Bin F a->B a:=λa b=>by
    cases a with
    |none=>exact b
    |some a=>exact⟨Fm.bO b.1,b.2.2⟩
   have n:B (Z9 p):=⟨by show(if F.O p=Z9 i then Z8 else F.O p)=Z8;rw[xp l],so.iK p i l⟩;rcases P with⟨j,Q,rfl,k,r⟩|⟨j,Q,rfl,k,r⟩
   .exact⟨p,j,g,.inl ⟨k,n⟩,r.weak m⟩
   .exact⟨p,j,g,k,n,bC.same (λ_ _ e=>e) m r⟩
  refine z3z E G M z λJ S=>q J B f (F.drop i) (Same.refl _) (Run.of rfl rfl rfl) (bY.drop (Same.refl _)) (so.giveUp hr) (λa b=>b.1) (λa b=>?_) S;cases a with
  |none=>exact b.elim
  |some a=>exact b.2
 .cases e
def Fm.lZ (F:Fm)(H:Hp):Fm:={F with O:=λa=>match H a with|some (.dK _)=>F.O a|_=>Z8}
theorem Fm.gT {F:Fm}{a:Addr}(h:F.O a=Z8):(F.lZ H).O a=none:=by
 unfold Fm.lZ
 dsimp only
 split<;>first|exact h|rfl
theorem StOk.lZ {K:Z5}(so:StOk K F H q l):StOk K (F.lZ H) H q (l.map CQ) where
 ext:=so.ext
 aM:=so.aM
 own:=λa i e=>by
  have c:F.O a=Z9 i:=by
   unfold Fm.lZ at e
   dsimp only at e
   split at e
   .exact e
   .cases e
  exact so.own a i c
 len:=by rw[af];exact so.len
 sl:=λi g d e=>by
  rw[bt]at e;cases h:l[i]? with
  |none=>rw[h]at e;cases e
  |some o=>
   rw[h]at e;have c:CQ o=Z9 (g,d):=by simpa using e
   cases o with
   |none=>cases c
   |some gd=>
    obtain⟨m,d0⟩:=gd;obtain⟨v,s,f⟩:=so.sl i m d0 h;refine⟨v,s,?_⟩
    have n:∀a,Bin F a->Bin (F.lZ H) a:=λa b=>by
     cases a with
     |none=>exact b
     |some a=>exact⟨Fm.gT b.1,b.2.1,b.2.2⟩
    cases m with
    |od=>cases c;exact f
    |al=>cases c;exact f
    |nu=>cases c;exact Rep.weak n f
    |fr=>
     obtain⟨p,ev,t,u⟩:=id f;rcases u with⟨y,w,rfl,j,r⟩|⟨kvs,es,rfl,j,r⟩
     .have k:Z9 (G.al,Z1 w)=Z9 (g,d):=c;cases k;have x:=Slot.rep so.iK f;exact x
     .have k:Z9 (G.fr,PyData.dict es)=Z9 (g,d):=c;cases k;refine⟨p,ev,?_,.inr ⟨kvs,es,rfl,j,bC.same (λ_ _ z=>z) n r⟩⟩;unfold Fm.lZ
      dsimp only
      rw[j];exact t
theorem DB (A:PE X e (tD X.K fa)):PI X tg e (tDF X.K λk=>fa k>>=λx=>jS x k):=by
 rintro j s C H R I ⟨k,F,w,so,c,q⟩
 obtain⟨⟨g,d⟩,D,c⟩:=Res.aA c;unfold jS at c
 dsimp only at c
 split at c
 .rename_i l;split at c
  .rename_i E;cases c;refine aN (A j s C H (λv f=>Same H f/\Rep X.K f (BG F H g) v (.list l)) I ⟨k,F,_,so,D,λv f u m=>⟨u,m⟩⟩) λv u G=>?_;obtain⟨y,f,L,M,i,m⟩:=G
   let B:Ad->Prop:=λa=>match a with|some a=>(F.lZ f).O a=Z8/\F.V a|none=>F.z
   have t:Rep X.K f B y (.list l):=by
    obtain⟨p,N,P,h,r⟩:=m;refine⟨p,N,P,?_,Reps.bG l E r⟩;rcases h with⟨h,b⟩|⟨h,b⟩
    .refine .inl ⟨h,?_,(BG.aM so.aM b:bM F (Z9 p))⟩;unfold Fm.lZ
     dsimp only
     rw[h]
    .exact .inr ⟨h,(BG.aM so.aM b:bM F Z8)⟩
   refine z3z L M t rfl λJ Q=>q J B f (F.lZ f) i (Run.of rfl rfl rfl) (λa o e n=>⟨i a o e,Fm.gT n⟩) ((so.same i).lZ) (λa b=>b.1) (λa b=>?_) Q;cases a with
   |none=>exact b
   |some a=>exact b.2
  .cases c
 .cases c
theorem PI.IW {k:Rho->Bool}(hf:PI X tg e (tDF X.K f))(hg:PI X tg e (tDF X.K g)):PI X tg e (tDF X.K λρ=>if k ρ then f ρ else g ρ):=by
 rintro pins s σ H R I ⟨ρ,F,w,so,e,q⟩
 dsimp only at e
 cases hk:k ρ with
 |true=>exact hf pins s σ H R I ⟨ρ,F,w,so,by rw[xp hk]at e;exact e,q⟩
 |false=>exact hg pins s σ H R I ⟨ρ,F,w,so,by rw[xq (hk▸c7)]at e;exact e,q⟩
theorem zvg (hp:iq (model X.prog X.w) X.A X.env X.xe)(hc:X.calm=Z7)(L:PI X tg iter (tDF X.K fw))(hg:PG X tg (tDG X.K t))(hb:PSs X M (tDS X.K fs))(hs:∀x,g7 iter X.env x=pure x):
  PS X (.For tg iter M [] pos) (tDS X.K λU=>fw U>>=λw=>dA (λx E=>cZ t (gJ x w.1,x) E>>=λc=>fs c) w.2.1 w.2.2):=
 PS.imp (zkb hp hc L hg hb hs) λD σ H ⟨U,F,Y,so,e,q⟩=>by
  obtain⟨w,e1,e⟩:=Res.aA e;refine⟨U,F,w,so,e1,λJ B H1 k s1 r1 f1 N DC DD wk=>?_⟩;have q1:=q.back r1 f1;generalize hf:(λx E=>cZ t (gJ x w.1,x) E>>=λc=>fs c)=f at e
  have kp:∀{l:Fm} {r:Hp},bY k H1 l r->Kp B H1 r:=λ{l r} fr a o e b=>by
   have hO:k.O a=none:=by
    rcases b with b|b
    .exact DC a b
    .cases h:k.O a with
     |none=>rfl
     |some j=>obtain⟨_,_,P⟩:=N.own a j h;rcases P with⟨xs,P⟩|⟨xs,P⟩<;>rw[e]at P<;>cases P<;>exact b.elim
   exact(fr a o e hO).1
  let W:Nat->Nat->L2.St->Hp->Prop:=λi m G r=>m=w.2.1.length-i/\i<=w.2.1.length/\∃c l,StOk X.K l r G c/\Run k l/\bY k H1 l r/\dA f (w.2.1.drop i) c=.ok Y
  refine⟨W,⟨_,rfl,dr _,w.2.2,k,N,Run.refl,bY.refl,e⟩,?_⟩
  rintro i m G r ⟨rfl,DE,c,l,Q,I,R,h⟩
  by_cases s:i<w.2.1.length
  .refine .inr ⟨wk.go r (kp R) i s,W (i+1) (w.2.1.length-(i+1)),λσ' H' p=>⟨_,by omega,p⟩,λx H3 y=>?_⟩;obtain⟨s3,d,hd,rx⟩:=wk.jI r (kp R) i x H3 s y
   have DF:w.2.1.drop i=d::w.2.1.drop (i+1):=by
    rw[ip s];have:w.2.1[i]=d:=by rw[ba s]at hd;simp_all
    rw[this]
   rw[DF]at h;simp only[dA]at h
   have yf:Rep X.K H3 (BI l (gJ d w.1)) x d:=by
    have DH:∀g a,BI k g a->BI l g a:=λg a b=>by cases g<;>cases a<;>first|exact b|(have C:k.V _:=b;rw[<-I.2.1]at C;exact C)|(have C:k.z:=b;rw[<-I.2.2]at C;exact C)|(have C:k.H0 _≠Z8/\k.V _:=b;exact⟨λz=>C.1 (none_of I.1 z),by rw[I.2.1];exact C.2⟩)
    unfold gJ;by_cases L:imm d=Z7
    .rw[xp L];exact Rep.bG d L rx
    .rw[xq L];exact rx.weak λa b=>DH _ _ (DD a b)
   cases T:f d c with
   |no=>rw[T]at h;cases h
   |exc z=>rw[T]at h;cases h
   |ok o1=>
    obtain⟨S,e4,e5⟩:=Res.aA (by rw[<-T,<-hf]);rw[T]at h;refine⟨c,l,(gJ d w.1,d),S,Q.same s3,yf,e4,λiX F4 qI u=>⟨S,F4,o1,qI,e5,?_⟩⟩;have r4:=I.trans (Run.of u.h0 u.v u.z);have f4:=R.trans λa o e n=>⟨s3 a o e,u.o a n⟩;cases o1 with
    |nx DI=>exact λσ' H' F' qJ r' f'=>⟨rfl,s,DI,F',qJ,r4.trans r',f4.trans f',h⟩
    |rt g d=>cases h;exact(q1.back r4 f4:sG X.K F4 H3 D (.rt g d))
  .have DJ:i=w.2.1.length:=by omega
   subst DJ;rw[qj]at h;cases h;exact .inl ⟨wk.stop r (kp R),q1 G r l Q I R⟩
theorem Q0 (E:iq (model X.prog X.w) X.A X.env X.xe)(hc:PT X c (eA X.K ft))(G:PSs X j (tDS X.K fs)):PS X (.While c j [] pos) (tDS X.K (xU ft fs n)):=
 PS.imp (N5 E hc G) λD Q H ⟨I,F,o,so,e,q⟩=>by
  let W:Nat->L2.St->Hp->Prop:=λm h r=>∃a f,StOk X.K f r h a/\Run F f/\bY F H f r/\xU ft fs m a=.ok o
  refine⟨W,⟨n,I,F,so,Run.refl,bY.refl,e⟩,?_⟩
  rintro m h r ⟨a,f,i,s,J,b⟩
  cases m with
  |zero=>cases b
  |succ m=>
   obtain⟨k,L,b⟩:=Res.aA b;refine⟨a,f,k,i,L,λB t=>?_⟩;have u:=J.trans (bY.same t);cases k with
   |false=>cases b;exact gH (q h B f (i.same t) s u)
   |true=>
    refine gI ⟨W m,λv M p=>⟨m,lh m,p⟩,?_⟩;cases l:fs a with
    |no=>rw[l]at b;cases b
    |exc z=>rw[l]at b;cases b
    |ok C=>
     rw[l]at b;refine⟨a,f,C,i.same t,l,?_⟩;cases C with
     |nx x=>exact λv M N y O P=>⟨x,N,y,s.trans O,u.trans P,b⟩
     |rt g d=>cases b;exact(q.back s u:sG X.K f B D (.rt g d))
end
def rAgg (K:Z5)(f:String):List V->Hp->VK->Prop:=λxs H Q=>∃B x dx l ys d,xs=[x]/\Rep K H B x dx/\z4n dx=.ok (l,ys)/\aggD f l ys=.ok d/\∀w H',Same H H'->Rep K H' (λa=>nw H a\/(imms ys=Z6/\B a)) w d->Q w H'
theorem oO {K:Z5}(r:Rep K H B x dx)(e:z4n dx=.ok (l,c)):∃a b,x=.ref a/\(if l then SqL K H a b else cA K H a b)/\Reps K H B b c:=by
 cases dx<;>try (cases e;done)
 .cases e;obtain⟨a,b,rfl,h,q⟩:=lV r;exact⟨a,b,rfl,h,q⟩
 .cases e;obtain⟨a,b,rfl,h,q⟩:=r;exact⟨a,b,rfl,h,q⟩
theorem Reps.mA {K:Z5}(r:Reps K H B c b):Reps K H (λa=>nw H a\/(imms b=Z6/\B a)) c b:=by
 cases d:imms b with
 |true=>exact Reps.bG b d r
 |false=>exact r.weak λ_ z=>.inr ⟨rfl,z⟩
section
variable {X:Cx}{e:Expr}{fa:Rho->Res GD}{pos:Pos}
theorem zkg (so:StOk X.K F H l j)(e:((fa j>>=fun x=>z4n x.2>>=fun p=>Res.ok (x.1,p))>>=fun w=>aggD f w.2.1 w.2.2>>=fun d=>Res.ok ((gJ d (if imms w.2.2 then .fr else agG w.1),d):GD))=.ok z)(q:∀v g,Same H g->Rep X.K g (BG F H z.1) v z.2->Q v g):
  xE (rAgg X.K f) (Ci (tD X.K fa) wZ) l H Q:=by
 obtain⟨w,b,e⟩:=Res.aA e;obtain⟨x,m,b⟩:=Res.aA b;obtain⟨p,n,b⟩:=Res.aA b;cases b;obtain⟨d,o,e⟩:=Res.aA e;cases e;refine⟨j,F,x,so,m,λv A c r=>⟨_,v,x.2,p.1,p.2,d,rfl,r,n,o,λs t u i=>q s t (c.trans u) (qE i λa h=>?_)⟩⟩;cases y:imms p.2 with
 |true=>
  rcases h with h|⟨h,_⟩
  .exact nw.back c h
  .rw[y]at h;cases h
 |false=>
  have al:bM F a:=by
   rcases h with h|⟨_,h⟩
   .exact(nw.back c h).aM so.aM
   .exact h.aM so.aM
  cases k:x.1 with
  |fr=>
   rcases h with h|⟨_,h⟩
   .exact nw.back c h
   .rw[k]at h;exact h
  |od=>exact al
  |al=>exact al
  |nu=>
   rcases h with h|⟨_,h⟩
   .exact .inl (nw.back c h)
   .rw[k]at h;exact h
theorem Q3:CallR X (.type "list") (rAgg X.K "list"):=by
 refine CallR.imp O3 λi H Q h=>?_;obtain⟨B,x,dx,l,j,d,rfl,r,e,f,q⟩:=h;obtain⟨a,b,rfl,h,rs⟩:=oO r e;cases f
 have g:SqL X.K H a b\/cA X.K H a b:=by
  cases l with
  |true=>exact .inl h
  |false=>exact .inr h
 refine⟨a,b,rfl,g,λp c=>q _ _ (Same.upd c) (oJ c rs.mA (λ_ z=>z) (.inl c))⟩
theorem Q4:CallR X (.type "tuple") (rAgg X.K "tuple"):=by
 refine CallR.imp O4 λg H Q h=>?_;obtain⟨B,x,dx,l,i,d,rfl,r,e,f,q⟩:=h;obtain⟨a,b,rfl,h,rs⟩:=oO r e;cases f;refine⟨a,b,rfl,?_⟩;cases l with
 |true=>exact .inl ⟨h,λp c=>q _ _ (Same.upd c) (Ak c rs.mA λ_ z=>z)⟩
 |false=>exact .inr ⟨h,q _ H (Same.refl H) ⟨a,b,rfl,h,rs.mA⟩⟩
theorem IX {K:Z5}:∀{a:List D} {bs:List Bool} {b:List V},allB a=Z9 bs->Reps K H B b a->b=bs.map V.bl
 | [],bs,b,e,r=>by cases e;exact r
 |d::a,bs,b,e,r=>by
  cases d<;>try (cases e;done)
  simp only[allB]at e;cases c:allB a with
  |none=>rw[c]at e;cases e
  |some f=>rw[c]at e;cases e;obtain⟨v,t,rfl,g,h⟩:=r;rw[g,IX c h];rfl
theorem IY {K:Z5}:∀{a:List D} {n:Int} {c:List V},fP a=Z9 n->Reps K H B c a->∃ns:List Int,c=ns.map V.int/\ns.sum=n
 | [],n,c,e,r=>by cases e;exact⟨[],r,rfl⟩
 |d::a,n,c,e,r=>by
  cases d<;>try (cases e;done)
  rename_i b;change(fP a).map (b+ ·)=_ at e;cases f:fP a with
  |none=>rw[f]at e;cases e
  |some m=>rw[f]at e;cases e;obtain⟨v,t,rfl,g,h⟩:=r;obtain⟨ns,i,j⟩:=IY f h;exact⟨b::ns,by rw[g,i];rfl,by rw[List.sum_cons,j]⟩
theorem Q5 (e:X.calm=Z7):CallR X (.builtin "sum") (λa H Q=>∃(p:Addr) (ns:List Int),a=[.ref p]/\SqL X.K H p (ns.map V.int)/\Q (.int ns.sum) H):=by
 rintro c s h H a i Q I r ⟨p,ns,rfl,f,q⟩
 obtain⟨u,rfl,rfl⟩:=vals1 r;obtain⟨b,rv,pl,j⟩:=I.list f;have d:t5 b.toArray.toList ns:=intsAre_of rv;have hl:=pl.isList;obtain⟨a,ex⟩:=d.allInts.items;have hn:=d.numsOf;rw[ex]at hl hn;refine sum_intListG (I.ok.hd e) hl λk l g hk=>⟨.int ns.sum,H,I.kept hk,⟨g,?_⟩,q⟩;rw[preSum_eq,jc (by simp)];rw[nums_intItems]at hn;rw[hn]
theorem Q6 (f:X.calm=Z7):CallR X (.builtin "sum") (rAgg X.K "sum"):=by
 refine CallR.imp (Q5 f) λj H Q h=>?_;obtain⟨B,x,k,l,g,d,rfl,r,e,b,q⟩:=h;obtain⟨a,m,rfl,h,i⟩:=oO r e;simp only[aggD,show("sum":String)≠"list" by decide,show("sum":String)≠"tuple" by decide,show("sum":String)≠"sorted" by decide,if_true,if_false]at b;cases l with
 |false=>cases b
 |true=>
  cases c:fP g with
  |none=>rw[c]at b;cases b
  |some n=>rw[c]at b;cases b;obtain⟨ns,ev,en⟩:=IY c i;subst ev en;exact⟨a,ns,rfl,h,q _ H (Same.refl H) rfl⟩
theorem zcd (hc:CallR X (.type f) (rAgg X.K f))(hm:X.mg x=Z8)(c:c9 x=Z9 (.type f))(hs:isStar y=Z6)(g:PE X y (tD X.K fa))(h:Gl X x)(hn:x≠"__name__")(a:Y4 x):
  PE X (.Call (.Name x p) [y] [] pos) (tD X.K λb=>(fa b>>=λx=>z4n x.2>>=λp=>Res.ok (x.1,p))>>=λw=>aggD f w.2.1 w.2.2>>=λd=>.ok (gJ d (if imms w.2.2 then .fr else agG w.1),d)):=
 PE.imp (CC hc hm c (gL g mM hs) (by simp[hs]) h hn a) λi H Q ⟨b,F,z,so,e,q⟩=>zkg so e q
theorem zdt (hc:CallR X (.builtin f) (rAgg X.K f))(hm:X.mg x=Z8)(c:c9 x=Z9 (.builtin f))(hs:isStar y=Z6)(g:PE X y (tD X.K fa))(h:Gl X x)(hn:x≠"__name__")(a:Y4 x):
  PE X (.Call (.Name x p) [y] [] pos) (tD X.K λb=>(fa b>>=λx=>z4n x.2>>=λp=>Res.ok (x.1,p))>>=λw=>aggD f w.2.1 w.2.2>>=λd=>.ok (gJ d (if imms w.2.2 then .fr else agG w.1),d)):=
 PE.imp (xO hc hm c (gL g mM hs) (by simp[hs]) h hn a) λi H Q ⟨b,F,z,so,e,q⟩=>zkg so e q
end
structure NoKeys (T id:String):Prop where
 own:PySem.Slot T "__getattribute__" id
 entry:entryFor table id=some Builtin.«object.__getattribute__»
 two:∀a b:Value,argsOk id {pos:=[a,b]}
 rest:typeLookup (.type T) "__getattr__"=pure Z8
 miss:∀(a:Addr) (xs:Array Value) (k:Nat) (sl:Array (Option Value)) (u:Tok),Meets (Builtin.«object.__getattribute__» {pos:=[.ref a,.str "keys" u]}) λA R s=>s.heap.get? a=some {cls:=.type T,data:=.seq xs k,slots:=sl}/\raisesAttr (.ref a) "keys" A R s
theorem Q7:NoKeys "list" "list.__getattribute__" where
 own:=F.slot_list_getattribute
 entry:=am_entry_list_getattribute
 two:=F.args_list_getattribute_2
 rest:=am_list_getattr_none
 miss:=λa b k sl u=>meets_getattribute_miss_list a b k sl "keys" u (by rw[typeLookup_type];kernel_rfl) (by decide) (by size_fits)
theorem Q8:NoKeys "tuple" "tuple.__getattribute__" where
 own:=F.slot_tuple_getattribute
 entry:=am_entry_tuple_getattribute
 two:=F.args_tuple_getattribute_2
 rest:=am_tuple_getattr_none
 miss:=λa b k sl u=>meets_getattribute_miss_tuple a b k sl "keys" u (by rw[typeLookup_type];kernel_rfl) dc (by size_fits)
theorem NoKeys.ask {T id:String}(N:NoKeys T id){prog:b9}{w:World}{A:dh}{E:Value->ao->Prop}{s:ao}{a:Addr}{o:Obj}{i:Array Value}{k:Nat}{Q:Option Value->ao->Prop}
  (j:s.heap.get? a=Z9 o) (hc:o.cls=.type T) (d:o.data=.seq i k) (hd:o.dict=Z8) (m:A.handled=Z8)
  (h:∀l n e,uj s.heap l e "AttributeError"->Q Z8 {s with heap:=l,toks:=n}):
  wpAny (model prog w) A (vv (.ref a) "keys") Q E s:=by
 cases o;cases hc;cases d;cases hd;cases s;rename_i b heap f c toks os;have ty:∀t,(⟨heap,f,c,t,os⟩:ao).TypeIs (.ref a) T:=λt=>⟨_,j,rfl⟩;have p:=sub_AttributeError;have n1:=N.own.lookup;have n2:=N.own.bind (.ref a);have n3:=N.rest
 delta vv getAttrBy? getAttrBy
 repeat' (first|assumption|exact ty _|(apply qw N.own (ty _) N.entry (N.two _ _) (N.miss a i k b _))|wp_step)
 refine⟨j,m,λq r ex nx=>?_⟩;obtain⟨u,v,there⟩:=nx.there;have g:=λt=>h _ t _ nx.of
 dsimp only[wants]
 delta getattributeRaised
 repeat' (first|assumption|apply g|wp_step)
theorem Q9
 (d:s.heap.get? a=Z9 o) (hc:o.cls=.type "list") (b:o.data=.seq i k) (hd:o.dict=Z8) (f:A.handled=Z8) (h:∀c g e,uj s.heap c e "AttributeError"->Q Z8 {s with heap:=c,toks:=g}):
 wpAny (model prog w) A (vv (.ref a) "keys") Q E s:=Q7.ask d hc b hd f h
theorem Ra
 (d:s.heap.get? a=Z9 o) (hc:o.cls=.type "tuple") (b:o.data=.seq i k) (hd:o.dict=Z8) (f:A.handled=Z8) (h:∀c g e,uj s.heap c e "AttributeError"->Q Z8 {s with heap:=c,toks:=g}):
 wpAny (model prog w) A (vv (.ref a) "keys") Q E s:=Q8.ask d hc b hd f h
abbrev uZ (X:Cx)(A:dh)(E:Value->ao->Prop):Cx:={X with A:=A,xe:=E}
theorem _root_.L2.Inv.uZ (I:Inv X a b H s)(hd:A.handled=X.A.handled)(hf:A.frames=X.A.frames):Inv (uZ X A E) a b H s:=⟨⟨I.ok.mod,I.ok.kind,I.ok.glob,I.ok.blt,I.ok.above,I.ok.inj,I.ok.has,I.ok.pU,λz=>hd.trans (I.ok.hd z),hf.trans I.ok.frames,I.ok.qZ,I.ok.rA,I.ok.bs,I.ok.iS,I.ok.gD,I.ok.gF,I.ok.cP,I.ok.nO,I.ok.zU⟩,I.os,I.bare,I.base,I.loc,I.cell,I.free,I.bD,I.pin,I.hok,I.len,I.fx⟩
theorem _root_.L2.Inv.DK (ok:X.Ok)(I:Inv (uZ X A E) a b H s):Inv X a b H s:=⟨ok,I.os,I.bare,I.base,I.loc,I.cell,I.free,I.bD,I.pin,I.hok,I.len,I.fx⟩
namespace F
theorem entry_dict_loop:entryFor table "dict.update.loop"=some Builtin.«dict.update.loop»:=entryFor_of_tree (by kernel_rfl)
theorem aV:plainId "dict.update.loop"=true:=by decide+kernel
end F
section
variable {X:Cx}{pins:List (Addr×Obj)}{σ:L2.St}
theorem Rb (p:IsTup s.heap a b.toArray)(h:Q b s):wpAny (model prog w) A (Builtin.Dict.pairItems (.ref a)) Q E s:=by have c:=p.typeIs;obtain⟨o,d,hc,n,hd⟩:=p;apply aa;refine mw c ?_;apply aa;refine fz d hd ?_;apply ae;simpa using h
theorem zw5 (hc:X.calm=Z7)(hA:X.A=A.in1)(T:Turn X.prog X.w X.K (.Name x0 p0) J fp it tn)(P:Walk X.K J B H1 p)(V:¬B (Z9 d)):
  ∀n i s H kvs (es:cR) t W,p.length-i=n->i<=p.length->Inv X c Y H s->tn i s.heap->(∀b∈fp,FpOk X c H b)->H d=Z9 (.dK kvs)->kvs.length<=i->bC X.K H B kvs es->jL es (p.drop i)=Z9 Z->Kp B H1 H->
   (∀Q C f,Inv X c Y C Q->C d=Z9 (.dK f)->bC X.K C B f Z->(∀a o,a≠d->H a=Z9 o->C a=Z9 o)->R (.ok (.ret .none)) Q)->
   kz (model X.prog X.w) A (.builtin "dict.update.loop" ⟨[.ref d,.ref it,.int W t,.none],[]⟩) R s:=by
 intro n
 induction n with
 |zero=>
  intro i s H kvs es t W hn hi I st fo hd hl rs l kp hR;have e:i=p.length:=by omega
  subst e;refine dq F.entry_dict_loop ?_;rw[Around.under_plainId F.aV _,<-hA];refine aa (aN (T.done X rfl rfl rfl hc _ c s Y H _ I fo st (P.stop H kp)) λr S D=>?_);obtain⟨rfl,I1⟩:=D;rw[qj]at l;cases l;exact aa (ae (ae (hR S H kvs I1 hd rs λ_ _ _ e=>e)))
 |succ n ih=>
  intro i s H kvs es t W hn hi I st fo hd hl rs l kp hR;have g:i<p.length:=by omega
  refine dq F.entry_dict_loop ?_;rw[Around.under_plainId F.aV _,<-hA];refine aa (aN (T.item X rfl rfl rfl hc i c s Y H _ I fo st (P.go H kp i g)) λr S D=>?_);obtain⟨u,rfl,h4⟩:=D;have key:∀(m:Sem PySem.Fin) Q' E',wpAny (model X.prog X.w) X.A (kq (.Name x0 p0) (.ref it) u>>=λ_=>m) Q' E' S->wpAny (model X.prog X.w) X.A m Q' E' S:=λm Q' E' h=>h;refine key _ _ _ (aa (aN h4 λ_ s5 D=>?_));obtain⟨x,U,I5,r5,y5,v,CB⟩:=D;obtain⟨sm,di,E,rx⟩:=P.jI H kp i x U g y5;have ed:p.drop i=di::p.drop (i+1):=by rw[ip g];rw[ba g]at E;cases E;rfl
  rw[ed]at l;unfold jL at l;split at l
  case h_2=>cases l
  rename_i kd vd;split at l
  case isFalse=>cases l
  rename_i hk;obtain⟨a,vs,rfl,sq,Rc⟩:=rx;obtain⟨vk,G,rfl,rk,rv⟩:=yd Rc;cases r5;obtain⟨its,L,pt,_⟩:=I5.tuple sq;obtain⟨uk,uv,rfl,Rf,Rg⟩:=vals2 L;have M:=I5.pinned (λb j=>⟨CB b j,(fo b j).2⟩) (T.obj _ _ v);have y:=sm _ _ hd;obtain⟨k,rfl,rfl,ok⟩:=yb hk rk;obtain⟨z,Rh,gU,rel,dd⟩:=z6 M.hok y;have IZ:gU.length<=bj:=rel.length▸z;have hz:=P.len;have jZ:(putK kvs k G).length<=i+1:=by have:=HM kvs k G;omega
  refine aa (cq (aa (wpAny_tryCatch (Rb pt ?_))));refine cq (wpAny_dictSet_pairs (uP Rf) dd λh' N hs=>?_);have I6:=zep (t':=s5.toks+1) M (y▸True.intro) hs (let⟨q,_,_,hq,_⟩:=N;⟨q,hq⟩) (HN (by omega) Rh (rel.put k Rg) N)
  have O:Kp B U (upd U d (.dK (putK kvs k G))):=λb o e z=>by
   have:b≠d:=by
    rintro rfl
    rcases z with z|z
    .exact V z
    .rw[y]at e;cases e;exact z
   rw[aS this];exact e
  refine ae ⟨kx F.aV _,?_⟩;refine ih (i+1) _ (upd U d (.dK (putK kvs k G))) (putK kvs k G) (dput es (kD k) vd) _ _ (by omega) g I6.bU ?_ ?_ bQ jZ ?_ l ?_ ?_
  .exact T.keep _ _ _ v λb j o e=>(I6.pin (b,o) (aq _ (aq _ (uO j e)))).1
  .intro b j;obtain⟨o,e,_⟩:=T.obj _ _ v b j;exact⟨(I6.pin (b,o) (aq _ (aq _ (uO j e)))).2.1,(fo b j).2⟩
  .exact bC.keep O (λ_ z=>z) _ (bC.put ok rv (rs.same sm λ_ z=>z))
  .exact λb o e z=>O b o (sm b o (kp b o e z)) z
  .intro Q C f I' iW Ri ext;refine hR Q C f I' iW Ri λb o j e=>ext b o j ?_;rw[aS j];exact sm b o e
theorem Rj {K:Z5}(s:Same H b)(h:SqL K H a c):SqL K b a c:=by
 rcases h with(h|⟨o,h⟩)|h
 .exact .inl (.inl (s _ _ h))
 .exact .inl (.inr ⟨o,s _ _ h⟩)
 .exact .inr h
theorem Rk (es:cR)(k v:D)(a:bV es=Z7)(h:imm v=Z7):bV (es++[(k,v)])=true:=by
 unfold bV at *
 rw[List.all_append,a];simp[h]
theorem Rm (k v:D)(a:imm v=Z7)(es:cR)(h:bV es=Z7):bV (es.map λe=>if eqK e.1 k then(e.1,v)else e)=true:=by
 unfold bV at *
 rw[a9]at *
 intro e b;obtain⟨c,d,rfl⟩:=a6.mp b;split
 .exact a
 .exact h c d
theorem I0:∀(b:List D) es a,imms b=Z7->bV es=Z7->jL es b=Z9 a->bV a=Z7
 | [],es,a,_,h,e=>by cases e;exact h
 |y::b,es,a,c,d,e=>by
  simp only[imms,ax]at c;unfold jL at e;split at e
  case h_2=>cases e
  rename_i k v;split at e
  case isFalse=>cases e
  have f:imm v=true:=by have:=c.1;change(imm k&&(imm v&&Z7))=Z7 at this;simp only[ax]at this;exact this.2.1
  refine I0 b _ a c.2 ?_ e;unfold dput;split
  .exact Rm k v f es d
  .exact Rk es k v d f
theorem Rn (hc:X.calm=Z7):CallR X (.type "dict") (rAgg X.K "dict"):=by
 rintro c s U H xs us Q I r ⟨B,x,dx,l,p,d,rfl,rx,e,G,q⟩
 obtain⟨a,vs,rfl,L,rs⟩:=oO rx e
 have e3:∃f,jL [] p=Z9 f/\d=.dict f:=by
  simp only[aggD,show("dict":String)≠"list" by decide,show("dict":String)≠"tuple" by decide,show("dict":String)≠"sorted" by decide,show("dict":String)≠"sum" by decide,show("dict":String)≠"all" by decide,show("dict":String)≠"any" by decide,if_true,if_false]at G;cases h:jL [] p with
  |none=>rw[h]at G;cases G
  |some es=>rw[h]at G;cases G;simp_all
 obtain⟨f,em,rfl⟩:=e3;have ew:z53 dx=.ok p:=by cases dx<;>first|(cases e;done)|(cases e;rfl)
 obtain⟨u,rfl,rfl⟩:=vals1 r;have t:=I.hok.fresh (ar _);have V:Inv X c U (upd H s.heap.objs.size (.dK [])) {s with heap:=s.heap.push {cls:=.type "dict",data:=.dict #[]}}:=I.laid (λ_ _ q=>ac _ q) (ar _) (HQ s.heap I.big);refine callType_codes (Q₁:=λobj j=>obj=.ref s.heap.objs.size/\j={s with heap:=s.heap.push {cls:=.type "dict",data:=.dict #[]}}) PySem.F.kt_called_dict (PySem.F.kt_typeCall_dict_1 _) PySem.F.entry_dict_init (kt_code_dict_new _ ⟨rfl,rfl⟩) ?_
 rintro obj j ⟨rfl,rfl⟩
 have k:(⟨s.heap.push {cls:=.type "dict",data:=.dict #[]},s.gens,s.drawn,s.toks,s.os⟩:ao).TypeIs (.ref s.heap.objs.size) "dict":=⟨_,a7 _ rfl,rfl⟩;refine⟨k,PySem.F.args_dict_init_2 _ _,?_⟩
 delta Builtin.«dict.__init__»
 refine aa ?_
 delta Builtin.Dict.selfAndRest
 refine aa (wpAny_notOrdered_dict k ?_);refine ae ?_;show wpAny _ _ (qk "dict.__init__" s.heap.objs.size (.ref a) [] .none) _ _ _
 delta qk
 have rest:∀m v,(∀b o,(s.heap.push {cls:=.type "dict",data:=.dict #[]}).get? b=Z9 o->m.get? b=Z9 o)->wpAny (model X.prog X.w) X.A.in1.in1 (qp (.ref a)) (λi M=>kz (model X.prog X.w) X.A.in1 (.builtin "dict.update.loop" ⟨[.ref s.heap.objs.size,i,n5 0,.none],[]⟩) (wants (λr N=>r=.none/\EP X c U Q (.ref s.heap.objs.size) N) X.xe) M) (λ_ _=>False) ⟨m,s.gens,s.drawn,v,s.os⟩:=by
  intro m v kp;have I2:Inv (uZ X X.A.in1.in1 (λ_ _=>False)) c U (upd H s.heap.objs.size (.dK [])) ⟨m,s.gens,s.drawn,v,s.os⟩:=(V.kept kp).uZ rfl rfl;refine aN (z3z (tg:=.Name "" default) (R:=λJ y=>Walk X.K J (λa=>B a/\¬nw H a) y p/\y=upd H s.heap.objs.size (.dK [])) I2 (show RelV (.ref a) (.ref a)from rfl) ((Rep.there _ rx).same (Same.upd t) λ_ z=>z) ew λJ W=>⟨W,rfl⟩) λi M zz=>?_;obtain⟨it,fp,tn,J,y,Y,I3,T,st,fo,W,eH⟩:=zz;subst Y eH;refine zw5 (X:=uZ X X.A.in1.in1 (λ_ _=>False)) hc rfl T W (λz=>z.2 t) p.length 0 M _ [] [] _ _ (by omega) (by omega) I3 st fo bQ (ar _) rfl em (λ_ _ e _=>e) ?_;intro s' y O I' Z P ext;refine⟨rfl,.ref s.heap.objs.size,y,I'.DK I.ok,rfl,q _ y (λb o e=>ext b o (dF e t) (aS (dF e t)▸e)) ⟨_,O,rfl,Z,.inl t,?_⟩⟩;cases hi:imms p with
  |true=>exact bC.bG f (I0 p [] f hi rfl em) P
  |false=>exact P.same (Same.refl y) λ_ z=>.inr ⟨rfl,z.1⟩
 have hA:=I.ok.hd hc;cases l with
 |true=>obtain⟨its,_,⟨o,n,S,g,C,D⟩,_⟩:=V.list (Rj (Same.upd t) L);refine aa (mw ⟨o,S,g⟩ ?_);refine aa (Q9 S g D C hA λm v e hx=>?_);refine aa (jk (aa (jg (rest m v hx.keeps) (λi M E=>?_) λ_ _ z=>z.elim)));exact ae ⟨kx F.aV _,E⟩
 |false=>obtain⟨its,_,⟨o,n,S,g,C,D⟩,_⟩:=V.lC (cA.rel (Same.upd t) L);refine aa (mw ⟨o,S,g⟩ ?_);refine aa (Ra S g D C hA λm v e hx=>?_);refine aa (jk (aa (jg (rest m v hx.keeps) (λi M E=>?_) λ_ _ z=>z.elim)));exact ae ⟨kx F.aV _,E⟩
end
open PySem.W
def runT {α:Type}(lt:Nat->Nat->Bool):KasT α->α
 |.ret a=>a
 |.ask i j k=>runT lt (k (lt i j))
theorem vA {a b:Type}(lt:Nat->Nat->Bool)(f:a->KasT b):∀t,runT lt (t.bind f)=runT lt (f (runT lt t))
 |.ret _=>rfl
 |.ask i j k=>vA lt f (k (lt i j))
section
variable (key:Nat->Nat)
abbrev ltk:Nat->Nat->Bool:=λi j=>decide (key i<key j)
def Kp' (p:Array Nat)(i:Nat):Nat:=key (p.getD i 0)
variable {key}
theorem yi (h:p[i]?=q[j]?):Kp' key p i=Kp' key q j:=by unfold Kp';rw[cy,cy,h]
theorem yj (b:j<=p.size)(k:Nat):Kp' key (kas_rev p i j) k=if i<=k/\k<j then Kp' key p (i+j-1-k)else Kp' key p k:=by
 have h:=getElem?_mirror_all (i:=i) b k;split
 .rename_i a;refine yi ?_;unfold kas_rev;rw[h,xp a]
 .rename_i a;refine yi ?_;unfold kas_rev;rw[h,xq a]
theorem Ja (hs:a<p.size)(hd:d<=a)(k:Nat):Kp' key (bubble p a d) k=if k=a-d then Kp' key p a else if a-d<k/\k<=a then Kp' key p (k-1)else Kp' key p k:=by
 have h:=getElem?_bubble hs d hd k;split
 .rename_i c;exact yi (by rw[h,xp c])
 .rename_i c;split
  .rename_i b;exact yi (by rw[h,xq c,xp b])
  .rename_i b;exact yi (by rw[h,xq c,xq b])
theorem Aw (p:Array Nat)(i j:Nat):(kas_rev p i j).size=p.size:=mirror_size _ _ _ _
theorem yk (p:Array Nat)(i j:Nat):(kas_rev p i j).Perm p:=mirror_perm _ _ _ _
theorem z6i (p:Array Nat):∀f n,1<=n->n<=runT (ltk key) (kas_asc p f n)/\runT (ltk key) (kas_asc p f n)<=n+f/\(∀i,n<=i->i<runT (ltk key) (kas_asc p f n)->Kp' key p (i-1)<=Kp' key p i)/\
  (runT (ltk key) (kas_asc p f n)<n+f->Kp' key p (runT (ltk key) (kas_asc p f n))<Kp' key p (runT (ltk key) (kas_asc p f n)-1))
 |0,n,h=>⟨ar _,ar _,λi b a=>absurd (l9 b a) (cg _),λa=>absurd a (cg _)⟩
 |f+1,n,h=>by
  have e:runT (ltk key) (kas_asc p (f+1) n)=runT (ltk key) (if decide (Kp' key p n<Kp' key p (n-1))=Z7 then .ret n else kas_asc p f (n+1)):=rfl;rw[e];by_cases c:Kp' key p n<Kp' key p (n-1)
  .rw[xp (xz c)];exact⟨ar _,j6 _ _,λi b a=>absurd (l9 b a) (cg _),λ_=>c⟩
  .rw[xq (by simpa using c)];obtain⟨k,l,d,g⟩:=z6i p f (n+1) (by omega);refine⟨by omega,by omega,λi b a=>?_,λa=>g (by omega)⟩;by_cases j:i=n
   .subst j;omega
   .exact d i (by omega) a
structure DPre (key:Nat->Nat)(p:Array Nat)(n q:Nat):Prop where
 one:1<=n
 qn:q+1<=n
 sz:n<=p.size
 de:∀i,1<=i->i<n->Kp' key p i<=Kp' key p (i-1)
 eq:∀i,n<=i+1+q->i<n->Kp' key p i=Kp' key p (n-1)
theorem DPre.rev (h:DPre key p n q)(k:Nat):Kp' key (kas_rev p (n-(q+1)) n) k=Kp' key p k:=by
 rw[yj h.sz];split
 .rename_i a;rw[h.eq k (by omega) a.2,h.eq _ (by omega) (by omega)]
 .rfl
theorem z3a:∀f p n q,DPre key p n q->n+f<=p.size->
  DPre key (runT (ltk key) (kas_desc f p n q)).1 (runT (ltk key) (kas_desc f p n q)).2.1 (runT (ltk key) (kas_desc f p n q)).2.2/\(runT (ltk key) (kas_desc f p n q)).1.Perm p/\(runT (ltk key) (kas_desc f p n q)).2.1<=n+f
 |0,p,n,q,h,s=>⟨h,Array.Perm.refl _,ar _⟩
 |f+1,p,n,q,h,s=>by
  have e:runT (ltk key) (kas_desc (f+1) p n q)=runT (ltk key) (if decide (Kp' key p n<Kp' key p (n-1))=Z7 then(if q>0 then kas_desc f (kas_rev p (n-(q+1)) n) (n+1) 0 else kas_desc f p (n+1) 0) else .ask (p.getD (n-1) 0) (p.getD n 0) λd=>if d=Z7 then .ret (p,n,q)else kas_desc f p (n+1) (q+1)):=rfl;rw[e];by_cases m:Kp' key p n<Kp' key p (n-1)
  .rw[xp (xz m)];by_cases o:q>0
   .rw[xp o]
    have c:DPre key (kas_rev p (n-(q+1)) n) (n+1) 0:=⟨by omega,by omega,by rw[Aw];omega,λi a g=>by
     rw[h.rev,h.rev];by_cases b:i=n
     .subst b;omega
     .exact h.de i a (by omega),λi a g=>by
     have:i=n:=by omega
     subst this;rfl⟩
    obtain⟨j,k,r⟩:=z3a f _ (n+1) 0 c (by rw[Aw];omega);exact⟨j,k.trans (yk _ _ _),by omega⟩
   .rw[xq o]
    have c:DPre key p (n+1) 0:=⟨by omega,by omega,by omega,λi a g=>by
     by_cases b:i=n
     .subst b;omega
     .exact h.de i a (by omega),λi a g=>by
     have:i=n:=by omega
     subst this;rfl⟩
    obtain⟨j,k,r⟩:=z3a f _ (n+1) 0 c (by omega);exact⟨j,k,by omega⟩
  .rw[xq (by simpa using m)];have t:runT (ltk key) (KasT.ask (p.getD (n-1) 0) (p.getD n 0) λd=>if d=Z7 then .ret (p,n,q)else kas_desc f p (n+1) (q+1))=runT (ltk key) (if decide (Kp' key p (n-1)<Kp' key p n)=Z7 then .ret (p,n,q)else kas_desc f p (n+1) (q+1)):=rfl;rw[t];by_cases l:Kp' key p (n-1)<Kp' key p n
   .rw[xp (xz l)];exact⟨h,Array.Perm.refl _,by show n<=_;omega⟩
   .rw[xq (by simpa using l)]
    have c:DPre key p (n+1) (q+1):=⟨by omega,by have :=h.qn;omega,by omega,λi a g=>by
     by_cases b:i=n
     .subst b;omega
     .exact h.de i a (by omega),λi a g=>by
     by_cases b:i=n
     .subst b;rfl
     .have :=h.eq i (by omega) (by omega);rw[Nat.add_sub_cancel];omega⟩
    obtain⟨j,k,r⟩:=z3a f _ (n+1) (q+1) c (by omega);exact⟨j,k,by omega⟩
def Asc (key:Nat->Nat)(p:Array Nat)(m:Nat):Prop:=∀i,1<=i->i<m->Kp' key p (i-1)<=Kp' key p i
theorem z5n (a:1<=n)(hn:n<=nrem)(c:nrem<=p.size)(de:∀i,1<=i->i<n->Kp' key p i<=Kp' key p (i-1)):
  Asc key (runT (ltk key) (kas_tail3 n nrem p)).2 (runT (ltk key) (kas_tail3 n nrem p)).1/\(runT (ltk key) (kas_tail3 n nrem p)).2.Perm p/\1<=(runT (ltk key) (kas_tail3 n nrem p)).1/\(runT (ltk key) (kas_tail3 n nrem p)).1<=nrem:=by
 unfold kas_tail3;rw[vA];obtain⟨a1,a2,a3,_⟩:=z6i (key:=key) (kas_rev p 0 n) (nrem-n) n a;refine⟨λi d b=>?_,yk _ _ _,by show 1<=runT _ _;omega,by show runT _ _<=_;omega⟩;by_cases f:i<n
 .show Kp' key (kas_rev p 0 n) (i-1)<=Kp' key (kas_rev p 0 n) i;rw[yj (by omega),yj (by omega),xp (by omega),xp (by omega)];have:=de (0+n-1-(i-1)) (by omega) (by omega);have e:0+n-1-(i-1)-1=0+n-1-i:=by omega
  rw[e]at this;exact this
 .exact a3 i (by omega) b
theorem descPart_spec (l:1<=n)(hn:n<nrem)(g:nrem<=p.size)(eq:∀i,i<n->Kp' key p i=Kp' key p (n-1))(lt:Kp' key p n<Kp' key p (n-1)):
  Asc key (runT (ltk key) (kas_descPart n nrem p)).2 (runT (ltk key) (kas_descPart n nrem p)).1/\(runT (ltk key) (kas_descPart n nrem p)).2.Perm p/\1<=(runT (ltk key) (kas_descPart n nrem p)).1/\(runT (ltk key) (kas_descPart n nrem p)).1<=nrem:=by
 unfold kas_descPart;rw[vA]
 have h:DPre key p (n+1) 0:=⟨by omega,by omega,by omega,λi i1 d=>by
  by_cases k:i=n
  .subst k;omega
  .rw[eq i (by omega),eq (i-1) (by omega)];exact ar _,λi i1 d=>by
  have:i=n:=by omega
  subst this;rfl⟩
 obtain⟨b,c,r3⟩:=z3a (nrem-(n+1)) p (n+1) 0 h (by omega);generalize runT (ltk key) (kas_desc (nrem-(n+1)) p (n+1) 0)=r at b c r3 ⊢;have a:=c.size_eq;by_cases j:r.2.2>0
 .rw[xp j];obtain⟨t1,t2,e,f⟩:=z5n (p:=kas_rev r.1 (r.2.1-(r.2.2+1)) r.2.1) (nrem:=nrem) b.one (by omega) (by rw[Aw,a];exact g) λi i1 d=>by rw[b.rev,b.rev];exact b.de i i1 d
  exact⟨t1,t2.trans ((yk _ _ _).trans c),e,f⟩
 .rw[xq j];obtain⟨t1,t2,e,f⟩:=z5n (nrem:=nrem) b.one (by omega) (a▸g) b.de;exact⟨t1,t2.trans c,e,f⟩
theorem Asc.le (h:Asc key p m):∀d i,i+d<m->Kp' key p i<=Kp' key p (i+d)
 |0,i,_=>ar _
 |d+1,i,hm=>by exact bo (Asc.le h d i (by omega)) (h (i+d+1) (by omega) (by omega))
theorem zbb (s:1<=a)(hz:a<=p.size):
  Asc key (runT (ltk key) (kas_count a p)).2 (runT (ltk key) (kas_count a p)).1/\(runT (ltk key) (kas_count a p)).2.Perm p/\1<=(runT (ltk key) (kas_count a p)).1/\(runT (ltk key) (kas_count a p)).1<=a:=by
 unfold kas_count;rw[vA];obtain⟨a1,a2,a3,a4⟩:=z6i p (a-1) 1 (ar _);generalize runT (ltk key) (kas_asc p (a-1) 1)=n at a1 a2 a3 a4 ⊢;have b:Asc key p n:=a3;by_cases hn:n=a
 .rw[xp (by simpa using hn)];exact⟨b,Array.Perm.refl _,a1,by show n<=_;omega⟩
 .rw[xq (by simpa using hn)];have lt:=a4 (by omega);by_cases f:n>1
  .rw[xp f];have e:runT (ltk key) (KasT.ask (p.getD 0 0) (p.getD (n-1) 0) λc=>if c=Z7 then .ret (n,p)else kas_descPart n a (kas_rev p 0 n))=runT (ltk key) (if decide (Kp' key p 0<Kp' key p (n-1))=Z7 then .ret (n,p)else kas_descPart n a (kas_rev p 0 n)):=rfl;rw[e];by_cases g:Kp' key p 0<Kp' key p (n-1)
   .rw[xp (xz g)];exact⟨b,Array.Perm.refl _,a1,by show n<=_;omega⟩
   .rw[xq (by simpa using g)]
    have eq:∀i,i<n->Kp' key p i=Kp' key p (n-1):=λi hi=>by
     have h:=b.le i 0 (by omega);have j:=b.le (n-1-i) i (by omega);have k:0+i=i:=by omega
     have l:i+(n-1-i)=n-1:=by omega
     rw[k]at h;rw[l]at j;omega
    have DL:∀i,i<n->Kp' key (kas_rev p 0 n) i=Kp' key p (n-1):=λi hi=>by rw[yj (by omega),xp (by omega)];exact eq _ (by omega)
    obtain⟨m,o,q,r⟩:=descPart_spec (p:=kas_rev p 0 n) (nrem:=a) (by omega) (by omega) (by rw[Aw];exact hz) (λi hi=>by rw[DL i hi,DL (n-1) (by omega)]) (by rw[DL (n-1) (by omega),yj (by omega),xq (by omega)];exact lt);exact⟨m,o.trans (yk _ _ _),q,r⟩
  .rw[xq f];have d:n=1:=by omega
   subst d
   exact descPart_spec (Nat.le_refl _) (by omega) hz (fun i hi=>by have :i=0:=by omega
                                                                   subst this;rfl) lt
theorem place_spec (b:Asc key p k):∀f l r,r-l<=f->l<=r->r<=k->(∀i,i<l->Kp' key p i<=Kp' key p k)->(∀i,r<=i->i<k->Kp' key p k<Kp' key p i)->
  runT (ltk key) (kas_place p k f l r)<=k/\(∀i,i<runT (ltk key) (kas_place p k f l r)->Kp' key p i<=Kp' key p k)/\(∀i,runT (ltk key) (kas_place p k f l r)<=i->i<k->Kp' key p k<Kp' key p i)
 |0,l,r,s,t,d,g,h=>by
  have:l=r:=by omega
  subst this;exact⟨d,g,h⟩
 |f+1,l,r,s,t,d,g,h=>by
  unfold kas_place;by_cases o:l ≥ r
  .rw[xp o];have:l=r:=by omega
   subst this;exact⟨d,g,h⟩
  .rw[xq o];have e:runT (ltk key) (KasT.ask (p.getD k 0) (p.getD ((l+r)/2) 0) λc=>if c=Z7 then kas_place p k f l ((l+r)/2)else kas_place p k f ((l+r)/2+1) r)=runT (ltk key) (if decide (Kp' key p k<Kp' key p ((l+r)/2))=Z7 then kas_place p k f l ((l+r)/2)else kas_place p k f ((l+r)/2+1) r):=rfl;rw[e];have a:l<=(l+r)/2:=by omega
   have j:(l+r)/2<r:=by omega
   generalize (l+r)/2=m at a j ⊢;by_cases q:Kp' key p k<Kp' key p m
   .rw[xp (xz q)];refine place_spec b f l m (by omega) a (by omega) g λi u v=>?_;have:=b.le (i-m) m (by omega);have n:m+(i-m)=i:=by omega
    rw[n]at this;omega
   .rw[xq (by simpa using q)];refine place_spec b f (m+1) r (by omega) (by omega) d (λi u=>?_) h;have:=b.le (m-i) i (by omega);have n:i+(m-i)=m:=by omega
    rw[n]at this;omega
theorem Jb:∀f p k,Asc key p k->k+f<=p.size->Asc key (runT (ltk key) (kas_bin f p k)) (k+f)/\(runT (ltk key) (kas_bin f p k)).Perm p
 |0,p,k,a,n=>⟨a,Array.Perm.refl _⟩
 |f+1,p,k,a,n=>by
  unfold kas_bin;rw[vA];obtain⟨o,d,g⟩:=place_spec a k 0 k (by omega) (dr _) (ar _) (λi q=>absurd q (Nat.not_lt_zero _)) λi b h=>absurd (l9 b h) (cg _);generalize runT (ltk key) (kas_place p k k 0 k)=l at o d g ⊢
  have r:Asc key (bubble p k (k-l)) (k+1):=λi b h=>by
   have e:k-(k-l)=l:=by omega
   rw[Ja (by omega) (by omega),Ja (by omega) (by omega),e];by_cases j:i=l
   .rw[xq (by omega),xq (by omega),xp j];exact d _ (by omega)
   .rw[xq j];by_cases c:i-1=l
    .rw[xp c,xp (by omega)];rw[c];exact mq (g l (ar _) (by omega))
    .rw[xq c];by_cases t:l<i
     .rw[xp (by omega),xp (by omega)];exact a (i-1) (by omega) (by omega)
     .rw[xq (by omega),xq (by omega)];exact a i b (by omega)
  obtain⟨m,s⟩:=Jb f (bubble p k (k-l)) (k+1) r (by rw[bubble_size];omega);refine⟨?_,s.trans (bubble_perm _ _ _)⟩;have e:k+1+f=k+(f+1):=by omega
  rw[e]at m;exact m
theorem DM (n:Nat)(f:1<=n):Asc key (runT (ltk key) (kas_sort n)) n/\(runT (ltk key) (kas_sort n)).Perm (li (cr n)):=by
 unfold kas_sort;rw[vA];have a:(li (cr n)).size=n:=by simp
 obtain⟨b,c,g,i⟩:=zbb f (by rw[a];exact ar _);generalize runT (ltk key) (kas_count n (li (cr n)))=r at b c g i ⊢;have hr:r.2.size=n:=by rw[c.size_eq,a]
 by_cases h:r.1<n
 .rw[xp h];have e:max r.1 1=r.1:=by omega
  rw[e];obtain⟨d,j⟩:=Jb (n-r.1) r.2 r.1 b (by omega);refine⟨?_,j.trans c⟩;have e:r.1+(n-r.1)=n:=by omega
  rw[e]at d;exact d
 .rw[xq h];have e:r.1=n:=by omega
  rw[e]at b;exact⟨b,c⟩
end
theorem vB {h:Heap}(c:b≠a)(e:h.get? b=Z9 o):(h.update a f).get? b=Z9 o:=by rw[t9 _ _ _ _ c];exact e
theorem z70 {a:List Value}(x:s.heap.IsList l a.toArray)(y:a.length<2)
  (h:∀D m n,s.heap.objs.size<=D->(∀b o,s.heap.get? b=Z9 o->m.get? b=Z9 o)->m.get? D=Z9 (dw "list" a.toArray n)->Q (.ref D) {s with heap:=m}):wpAny (model prog w) A (call (.builtin "sorted") [.ref l]) Q E s:=by
 apply lm wp vw vy (vz _);apply aa;apply ae;apply aa;refine collect_list x ?_ (by rw[io];omega);apply aa;refine lu ?_ (by rw[io];omega);have u:∀b o,s.heap.get? b=Z9 o->((s.heap.push (dw "list" #[] 0)).update s.heap.objs.size (Obj.mapSeq (· ++a.toArray))).get? b=Z9 o:=λb o e=>vB (br (bh e)) (ac _ e);have k:s.heap.objs.size<=((s.heap.push (dw "list" #[] 0)).update s.heap.objs.size (Obj.mapSeq (· ++a.toArray))).objs.size:=by rw[Heap.size_update,pe];omega
 generalize ((s.heap.push (dw "list" #[] 0)).update s.heap.objs.size (Obj.mapSeq (·++a.toArray)))=i at u k ⊢;have c:(i.push (dw "list" a.toArray 0)).get? i.objs.size=Z9 (dw "list" a.toArray 0):=a7 _ rfl;have j:∀b o,s.heap.get? b=Z9 o->b≠i.objs.size/\(i.push (dw "list" a.toArray 0)).get? b=Z9 o:=λb o e=>⟨br (b8 (bh e) k),ac _ (u b o e)⟩;generalize B:i.objs.size=D at c j k ⊢;generalize i.push (dw "list" a.toArray 0)=f at c j ⊢;apply aa;apply cq;refine f9 slot_list_sort ⟨_,c,rfl⟩ entry_list_sort ?body (args_list_sort _);rw[list_sort_plain];refine aa (qy c rfl ?_);refine aa (n6 c rfl ?_);obtain⟨p,g⟩:∃p,(f.update D (Obj.mapSeq λ_=>(#[]:Array Value))).get? D=Z9 (dw "list" #[] p):=⟨_,l4 c λ_=>#[]⟩;have q:∀b o,s.heap.get? b=Z9 o->b≠D/\(f.update D (Obj.mapSeq λ_=>(#[]:Array Value))).get? b=Z9 o:=λb o e=>⟨(j b o e).1,vB (j b o e).1 (j b o e).2⟩;generalize (f.update D (Obj.mapSeq λ_=>(#[]:Array Value)))=r at g q ⊢;refine aa (tm g rfl ?_);refine aa (pg ?_ (by rw[io];simp;omega));apply aa;refine lu (cq ?_);have d:((r.push (dw "tuple" a.toArray 0)).push (dw "list" #[] 0)).get? D=Z9 (dw "list" #[] p):=ac _ (ac _ g);have t:∀b o,s.heap.get? b=Z9 o->b≠D/\((r.push (dw "tuple" a.toArray 0)).push (dw "list" #[] 0)).get? b=Z9 o:=λb o e=>⟨(q b o e).1,ac _ (ac _ (q b o e).2)⟩;generalize ((r.push (dw "tuple" a.toArray 0)).push (dw "list" #[] 0))=C at d t ⊢;have v:a.toArray.size<2:=by simpa using y
 rw[xp v,xp v];refine aa (ae ?_);refine aa (ae ?_);refine aa (tm d rfl ?_);have z:(arrOf (SortSt.mk' general' (a.toArray.zip a.toArray) #[] 7 Z8)).map (·.2)=a.toArray:=by show(a.toArray.zip a.toArray).map (·.2)=a.toArray;simp;exact List.map_snd_zip (ar _)
 rw[z];refine aa (n6 d rfl ?_);simp only[if_false,Bool.false_eq_true,bne_self_eq_false];refine ae ⟨_,rfl,ae ⟨_,rfl,h D _ _ k (λb o e=>vB (t b o e).1 (t b o e).2) (l4 d λ_=>a.toArray)⟩⟩
def dG {α:Type}(n:Nat)(Q:α->Prop):KasT α->Prop
 |.ret a=>Q a
 |.ask i j k=>i<n/\j<n/\∀b,dG n Q (k b)
theorem dG.bind {c d:Type}{Q:c->Prop}{R:d->Prop}{f:c->KasT d}(e:∀a,Q a->dG n R (f a)):∀{t:KasT c},dG n Q t->dG n R (t.bind f)
 |.ret a,h=>e a h
 |.ask i j k,h=>⟨h.1,h.2.1,λb=>dG.bind e (h.2.2 b)⟩
theorem dG.ite [Decidable c] (d:dG n Q a)(e:dG n Q b):dG n Q (if c then a else b):=by
 split
 .exact d
 .exact e
def AllIn (n:Nat)(p:Array Nat):Prop:=0<n/\∀x∈p,x<n
theorem AllIn.get (h:AllIn n p)(i:Nat):p.getD i 0<n:=by
 rw[cy];cases e:p[i]? with
 |none=>exact h.1
 |some x=>exact h.2 x (Array.mem_of_getElem? e)
theorem AllIn.perm (h:AllIn n p)(a:q.Perm p):AllIn n q:=⟨h.1,λx hx=>h.2 x (a.mem_iff.mp hx)⟩
theorem AllIn.rev (h:AllIn n p)(i j:Nat):AllIn n (kas_rev p i j):=h.perm (yk _ _ _)
theorem DN (h:AllIn n p):∀f m,dG n (λ_=>True) (kas_asc p f m)
 |0,m=>trivial
 |f+1,m=>⟨h.get _,h.get _,λb=>dG.ite trivial (DN h f (m+1))⟩
theorem Ax:∀f p m q,AllIn n p->dG n (λr=>AllIn n r.1) (kas_desc f p m q)
 |0,p,m,q,h=>h
 |f+1,p,m,q,h=>⟨h.get _,h.get _,λb=>dG.ite (dG.ite (Ax f _ _ _ (h.rev _ _)) (Ax f _ _ _ h)) ⟨h.get _,h.get _,λd=>dG.ite h (Ax f _ _ _ h)⟩⟩
theorem Jc (h:AllIn n p):dG n (λr=>AllIn n r.2) (kas_tail3 m r p):=by refine dG.bind (λa _=>?_) (DN (h.rev _ _) _ _);exact h.rev _ _
theorem Jd (h:AllIn n p):dG n (λr=>AllIn n r.2) (kas_descPart m r p):=dG.bind (λa b=>dG.ite (Jc (AllIn.rev b _ _)) (Jc b)) (Ax _ _ _ _ h)
theorem Ro (h:AllIn n p):dG n (λr=>AllIn n r.2) (kas_count r p):=by
 refine dG.bind (λm _=>?_) (DN h _ _);split
 .exact h
 .split
  .refine⟨h.get _,h.get _,λc=>?_⟩;show dG n _ (if c=Z7 then _ else _);split
   .exact h
   .exact Jd (h.rev _ _)
  .exact Jd h
theorem DO (h:AllIn n p)(k:Nat):∀f l r,dG n (λ_=>True) (kas_place p k f l r)
 |0,l,r=>trivial
 |f+1,l,r=>by exact dG.ite trivial ⟨h.get _,h.get _,λc=>dG.ite (DO h k f _ _) (DO h k f _ _)⟩
theorem Je:∀f p k,AllIn n p->dG n (λ_=>True) (kas_bin f p k)
 |0,p,k,h=>trivial
 |f+1,p,k,h=>dG.bind (λl _=>Je f _ _ (h.perm (bubble_perm _ _ _))) (DO h k _ _ _)
theorem Jf (h:0<n):dG n (λ_=>True) (kas_sort n):=by
 refine dG.bind (λr hr=>?_) (Ro ⟨h,λx hx=>by simpa using hx⟩);split
 .exact Je _ _ _ hr
 .exact trivial
theorem DP {c:Type}{P:ao->Prop}(h:∀i j C s,i<n->j<n->P s->(∀b,P b->C (lt i j) b)->cmp i j C s){Q:c->ao->Prop}:∀t s,dG n (λ_=>True) t->P s->(∀b,P b->Q (runT lt t) b)->t.kasWp cmp Q s
 |.ret a,s,_,p,q=>q s p
 |.ask i j k,s,a,p,q=>h i j _ s a.1 a.2.1 p λb d=>DP h (k (lt i j)) b (a.2.2 _) d q
structure OrdOn (p:D->Prop):Prop where
 fR:∀x,p x->bL x x=Z6
 tr:∀x y z,p x->p y->p z->bL x y=Z7->bL y z=Z7->bL x z=Z7
 gV:∀x y z,p x->p y->p z->bL x z=Z7->bL x y=Z7\/bL y z=Z7
 fY:∀x y,p x->p y->bL x y=Z6->bL y x=Z6->x=y
theorem j' (h:uR x=Z7):∃i,x=.int i:=by cases x<;>first|(cases h;done)|exact⟨_,rfl⟩
theorem jA (h:uS x=Z7):∃i,x=.str i:=by cases x<;>first|(cases h;done)|exact⟨_,rfl⟩
theorem yl (a b:Int):bL (.int a) (.int b)=decide (a<b):=rfl
theorem Rp (a b:Str):bL (.str a) (.str b)=decide (a.cps.toList<b.cps.toList):=rfl
theorem oP:OrdOn (λx=>uR x=Z7) where
 fR:=λx h=>by obtain⟨i,rfl⟩:=j' h;rw[yl];simp
 tr:=λx y z hx a b c d=>by obtain⟨i,rfl⟩:=j' hx;obtain⟨j,rfl⟩:=j' a;obtain⟨k,rfl⟩:=j' b;rw[yl,decide_eq_true_eq]at *;omega
 gV:=λx y z hx a b h=>by
  obtain⟨i,rfl⟩:=j' hx;obtain⟨j,rfl⟩:=j' a;obtain⟨k,rfl⟩:=j' b;rw[yl,decide_eq_true_eq]at *
  rw[yl,decide_eq_true_eq];omega
 fY:=λx y hx a c d=>by
  obtain⟨i,rfl⟩:=j' hx;obtain⟨j,rfl⟩:=j' a;rw[yl,decide_eq_false_iff_not]at *
  rw[show i=j by omega]
theorem Rq {b:Str}(h:a.cps.toList=b.cps.toList):a=b:=by obtain⟨⟨l⟩⟩:=a;obtain⟨⟨m⟩⟩:=b;simp only at h;rw[h]
theorem oQ:OrdOn (λx=>uS x=Z7) where
 fR:=λx h=>by obtain⟨i,rfl⟩:=jA h;rw[Rp];simp_all
 tr:=λx y z hx a b c d=>by obtain⟨i,rfl⟩:=jA hx;obtain⟨j,rfl⟩:=jA a;obtain⟨k,rfl⟩:=jA b;exact strKind.trans _ _ _ c d
 gV:=λx y z hx a b h=>by obtain⟨i,rfl⟩:=jA hx;obtain⟨j,rfl⟩:=jA a;obtain⟨k,rfl⟩:=jA b;exact strKind.negTrans _ _ _ h
 fY:=λx y hx a c d=>by obtain⟨i,rfl⟩:=jA hx;obtain⟨j,rfl⟩:=jA a;rw[Rq (strKind.total _ _ c d)]
theorem oR (b:Bool):OrdOn (λx=>ofK b x=Z7):=by
 cases b with
 |true=>exact oP
 |false=>exact oQ
theorem DQ (hx:ofK b x=Z7)(a:ofK b y=Z7):aY x y=Z7↔x=y:=by
 cases b with
 |true=>obtain⟨i,rfl⟩:=j' hx;obtain⟨j,rfl⟩:=j' a;show(i==j)=Z7↔_;rw[beq_iff_eq];exact⟨λh=>by rw[h],λh=>by cases h;rfl⟩
 |false=>obtain⟨i,rfl⟩:=jA hx;obtain⟨j,rfl⟩:=jA a;show(i==j)=Z7↔_;rw[beq_iff_eq];exact⟨λh=>by rw[h],λh=>by cases h;rfl⟩
theorem eL (h:cH (b::bs) a=Z7):∃x r,a=x::r/\ofK b x=Z7/\cH bs r=true:=by
 cases a with
 |nil=>cases h
 |cons x r=>simp only[cH,ax]at h;exact⟨x,r,rfl,h.1,h.2⟩
theorem fI (h:cH [] a=Z7):a=[]:=by
 cases a with
 |nil=>rfl
 |cons x r=>cases h
theorem sH (x y:D)(a b:List D):aF (x::a) (y::b)=if aY x y then aF a b else bL x y:=by simp only[aF]
theorem oS (hx:ofK b x=Z7)(a:ofK b y=Z7)(h:x=y):aF (x::c) (y::d)=aF c d:=by rw[sH,xp ((DQ hx a).mpr h)]
theorem jB (hx:ofK b x=Z7)(a:ofK b y=Z7)(h:x≠y):aF (x::c) (y::d)=bL x y:=by rw[sH,xq λz=>h ((DQ hx a).mp z)]
theorem Ay:aF [] []=false:=by simp[aF]
theorem Jg:∀bs a,cH bs a=Z7->aF a a=Z6
 | [],a,h=>by rw[fI h];exact Ay
 |b::bs,a,h=>by obtain⟨x,r,rfl,c,d⟩:=eL h;rw[oS c c rfl];exact Jg bs r d
theorem Jh:∀bs e f g,cH bs e=Z7->cH bs f=Z7->cH bs g=Z7->aF e f=Z7->aF f g=Z7->aF e g=Z7
 | [],e,f,g,k,l,m,a,h=>by rw[fI k,fI l]at a;cases a
 |b::bs,e,f,g,k,l,m,a,h=>by
  obtain⟨x,e,rfl,hx,k⟩:=eL k;obtain⟨y,f,rfl,i,l⟩:=eL l;obtain⟨z,g,rfl,c,m⟩:=eL m;have O:=oR b;by_cases j:x=y
  .rw[oS hx i j]at a;by_cases d:y=z
   .rw[oS i c d]at h;rw[oS hx c (j.trans d)];exact Jh bs e f g k l m a h
   .rw[jB i c d]at h;rw[jB hx c (j▸d),j];exact h
  .rw[jB hx i j]at a;by_cases d:y=z
   .rw[jB hx c (d▸j),<-d];exact a
   .rw[jB i c d]at h;have n:=O.tr x y z hx i c a h;rw[jB hx c (λq=>by subst q;rw[O.fR x hx]at n;cases n)];exact n
theorem Ji:∀bs d f g,cH bs d=Z7->cH bs f=Z7->cH bs g=Z7->aF d g=Z7->aF d f=Z7\/aF f g=Z7
 | [],d,f,g,j,l,k,m=>by rw[fI j,fI k]at m;cases m
 |b::bs,d,f,g,j,l,k,e=>by
  obtain⟨x,d,rfl,hx,j⟩:=eL j;obtain⟨y,f,rfl,a,l⟩:=eL l;obtain⟨z,g,rfl,h,k⟩:=eL k;have O:=oR b;by_cases i:x=z
  .rw[oS hx h i]at e;by_cases c:x=y
   .rw[oS hx a c,oS a h (c.symm.trans i)];exact Ji bs d f g j l k e
   .rw[jB hx a c,jB a h (λq=>c (i.trans q.symm)),<-i];cases m:bL x y with
    |true=>exact .inl rfl
    |false=>
     cases o:bL y x with
     |true=>exact .inr rfl
     |false=>exact(c (O.fY x y hx a m o)).elim
  .rw[jB hx h i]at e;by_cases c:x=y
   .rw[jB a h (λq=>i (c.trans q)),<-c];exact .inr e
   .rw[jB hx a c];by_cases n:y=z
    .rw[n];exact .inl e
    .rw[jB a h n];exact O.gV x y z hx a h e
theorem Jj:∀bs a c,cH bs a=Z7->cH bs c=Z7->aF a c=Z6->aF c a=Z6->a=c
 | [],a,c,e,f,g,h=>by rw[fI e,fI f]
 |b::bs,a,c,e,f,g,h=>by
  obtain⟨x,a,rfl,hx,e⟩:=eL e;obtain⟨y,c,rfl,i,f⟩:=eL f;by_cases d:x=y
  .rw[oS hx i d]at g;rw[oS i hx d.symm]at h;rw[d,Jj bs a c e f g h]
  .rw[jB hx i d]at g;rw[jB i hx (λq=>d q.symm)]at h;exact(d ((oR b).fY x y hx i g h)).elim
theorem kA (h:z2n bs x=Z7):∃a,x=.tuple a/\cH bs a=true:=by cases x<;>first|(cases h;done)|exact⟨_,rfl,h⟩
theorem Rr (a b:List D):bL (.tuple a) (.tuple b)=aF a b:=rfl
theorem sI (bs:List Bool):OrdOn (λx=>z2n bs x=Z7) where
 fR:=λx h=>by obtain⟨i,rfl,h⟩:=kA h;rw[Rr];exact Jg bs i h
 tr:=λx y z hx a b c d=>by obtain⟨i,rfl,hx⟩:=kA hx;obtain⟨j,rfl,a⟩:=kA a;obtain⟨k,rfl,b⟩:=kA b;exact Jh bs _ _ _ hx a b c d
 gV:=λx y z hx a b h=>by obtain⟨i,rfl,hx⟩:=kA hx;obtain⟨j,rfl,a⟩:=kA a;obtain⟨k,rfl,b⟩:=kA b;exact Ji bs _ _ _ hx a b h
 fY:=λx y hx a c d=>by obtain⟨i,rfl,hx⟩:=kA hx;obtain⟨j,rfl,a⟩:=kA a;rw[Jj bs _ _ hx a c d]
def kB (l:List D):Prop:=l.Pairwise λa b=>bL b a=Z6
theorem DR (x:D):∀l,(dQ x l).Perm (x::l)
 | []=>.refl _
 |y::l=>by
  unfold dQ;split
  .exact((DR x l).cons y).trans (.swap x y l)
  .exact .refl _
theorem DS:∀l,(z1b l).Perm l
 | []=>.refl _
 |x::l=>(DR x (z1b l)).trans ((DS l).cons x)
section
variable {p:D->Prop}(O:OrdOn p)
include O
theorem OrdOn.DT (hx:p x)(a:p y)(h:bL x y=Z7):bL y x=false:=by
 cases e:bL y x with
 |false=>rfl
 |true=>have:=O.tr x y x hx a hx h e;rw[O.fR x hx]at this;cases this
theorem Jk (x:D)(hx:p x):∀l,(∀y∈l,p y)->kB l->kB (dQ x l)
 | [],_,_=>gy _ _
 |y::l,b,hs=>by
  have c:=b y (by simp);have hl:∀z∈l,p z:=λz a=>b z (by simp[a]);obtain⟨d,f⟩:=cn.mp hs;unfold dQ;split
  .rename_i hc;refine cn.mpr ⟨λz a=>?_,Jk x hx l hl f⟩;rcases aw.mp ((DR x l).mem_iff.mp a)with rfl|a
   .exact O.DT c hx hc
   .exact d z a
  .rename_i hc;refine cn.mpr ⟨λz a=>?_,hs⟩;rcases(aw.mp a)with rfl|a
   .exact by simpa using hc
   .cases e:bL z x with
    |false=>rfl
    |true=>
     rcases O.gV z y x (hl z a) c hx e with q|q
     .rw[d z a]at q;cases q
     .exact(hc q).elim
theorem Jl:∀l,(∀y∈l,p y)->kB (z1b l)
 | [],_=>List.Pairwise.nil
 |x::l,a=>Jk O x (a x (by simp)) _ (λz b=>a z (by simp[(DS l).mem_iff.mp b])) (Jl l λz b=>a z (by simp[b]))
theorem Jm:∀{a b:List D},(∀y∈a,p y)->a.Perm b->kB a->kB b->a=b
 | [],b,_,c,_,_=>(c.symm.eq_nil).symm
 |x::a,[],_,c,_,_=>by have:=c.length_eq;simp at this
 |x::a,y::b,d,c,ha,hb=>by
  obtain⟨g,a2⟩:=cn.mp ha;obtain⟨h,i⟩:=cn.mp hb;have hx:=d x (by simp);have f:=d y (c.mem_iff.mpr (by simp))
  have e:x=y:=by
   refine O.fY x y hx f ?_ ?_
   .rcases aw.mp (c.mem_iff.mp (show x∈x::a by simp))with q|q
    .rw[<-q];exact O.fR x hx
    .exact h x q
   .rcases aw.mp (c.mem_iff.mpr (show y∈y::b by simp))with q|q
    .rw[<-q];exact O.fR y f
    .exact g y q
  subst e;rw[Jm (λz j=>d z (by simp[j])) (List.perm_cons x |>.mp c) a2 i]
def rank (ds:List D)(i:Nat):Nat:=ds.countP λd=>bL d (ds.getD i .none)
omit O in
theorem Jo {q r:D->Bool}:∀(l:List D),(∀x∈l,q x=Z7->r x=Z7)->(∃x∈l,r x=Z7/\q x=Z6)->l.countP q<l.countP r
 | [],_,⟨_,h,_⟩=>by simp at h
 |x::l,h,⟨y,hy,h1,h2⟩=>by
  have hl:l.countP q<=l.countP r:=nv λz hz=>h z (by simp[hz]);rcases(aw.mp hy)with rfl|hy
  .rw[List.countP_cons_of_neg (by rw[h2];simp),List.countP_cons_of_pos h1];omega
  .have :=Jo l (λz hz=>h z (by simp[hz])) ⟨y,hy,h1,h2⟩;rw[iu,iu];have hx:=h x (by simp);cases e:q x with
   |true=>rw[hx e];simp;exact this
   |false=>simp;split<;>omega
theorem DU (b:∀d∈a,p d)(f:i<a.length)(g:j<a.length):decide (rank a i<rank a j)=bL (a.getD i .none) (a.getD j .none):=by
 have l:a.getD i .none=a[i]:=by simp[f]
 have m:a.getD j .none=a[j]:=by simp[g]
 have c:=gz f;have k:=gz g;unfold rank;rw[l,m];cases e:bL a[i] a[j]with
 |true=>rw[decide_eq_true_eq];exact Jo a (λx hx h=>O.tr x _ _ (b x hx) (b _ c) (b _ k) h e) ⟨a[i],c,e,O.fR _ (b _ c)⟩
 |false=>
  rw[decide_eq_false_iff_not]
  have:a.countP (λd=>bL d a[j])<=a.countP λd=>bL d a[i]:=nv λx hx h=>by
   rcases O.gV x _ _ (b x hx) (b _ c) (b _ k) h with q|q
   .exact q
   .rw[e]at q;cases q
  omega
theorem Jp (g:∀d∈a,p d)(hn:1<=a.length):(runT (ltk (rank a)) (kas_sort a.length)).toList.map (λi=>a.getD i .none)=z1b a:=by
 obtain⟨h,f⟩:=DM a.length hn;generalize runT (ltk (rank a)) (kas_sort a.length)=q at h f ⊢;have k:q.toList.Perm (cr a.length):=by simpa using f.toList
 have b:q.size=a.length:=by rw[f.size_eq];simp
 have c:(q.toList.map λi=>a.getD i .none).Perm a:=by
  refine(k.map _).trans ?_
  have:(cr a.length).map (λi=>a.getD i .none)=a:=by
   apply List.ext_getElem
   .simp
   .intro i h f;simp;rw[ba (by simpa using f)];rfl
  rw[this]
 refine Jm O (λy r=>g y (c.mem_iff.mp r)) (c.trans (DS a).symm) ?_ (Jl O a g);unfold kB;rw[ij,lq];intro i j n o s;have l:i<a.length:=by rw[<-b];simpa using n
 have m:j<a.length:=by rw[<-b];simpa using o
 have le:=h.le (j-i) i (by omega);have e:i+(j-i)=j:=by omega
 rw[e]at le;have t:Kp' (rank a) q i=rank a q.toList[i]:=by unfold Kp';rw[cy];simp[b,l]
 have u:Kp' (rank a) q j=rank a q.toList[j]:=by unfold Kp';rw[cy];simp[b,m]
 rw[<-DU O g (by simpa using k.mem_iff.mp (gz o)) (by simpa using k.mem_iff.mp (gz n)),decide_eq_false_iff_not];omega
end
def qK (b:Bool)(x:D)(u:Value):Prop:=if b then ∃i t,x=.int i/\u=.int i t else ∃z t,x=.str z/\u=.str z t
theorem Jq {K:Z5}(hx:ofK b x=Z7)(r:Rep K H B v x)(a:RelV v u):qK b x u:=by
 cases b with
 |true=>obtain⟨i,rfl⟩:=j' hx;have e:=r;subst e;obtain⟨t,rfl⟩:=a;exact⟨i,t,rfl,rfl⟩
 |false=>obtain⟨z,rfl⟩:=jA hx;have e:=r.1;subst e;obtain⟨t,rfl⟩:=a;exact⟨z,t,rfl,rfl⟩
section
variable {prog:b9}{w:World}{A:dh}{E:Value->ao->Prop}{s:ao}{b:Bool}{x y:D}{u v:Value}{Q:Bool->ao->Prop}
theorem Rt (a:qK b x u)(c:qK b y v)(q:Q (aY x y) s):wpAny (model prog w) A (eqBool u v) Q E s:=by
 cases b with
 |true=>obtain⟨i,t,rfl,rfl⟩:=a;obtain⟨j,d,rfl,rfl⟩:=c;exact wpAny_eqBool_int q
 |false=>
  obtain⟨i,t,rfl,rfl⟩:=a;obtain⟨j,d,rfl,rfl⟩:=c;refine wpAny_eqBool_str ?_;have e:aY (.str i) (.str j)=decide (i=j):=by show(i==j)=decide (i=j);apply ro.mpr;rw[beq_iff_eq,decide_eq_true_eq]
  rw[<-e];exact q
theorem Jr (c:Bool)(a:qK b x u)(d:qK b y v)(q:Q (bL x y) s):wpAny (model prog w) A (oneLt' c u v) Q E s:=by
 cases b with
 |true=>
  obtain⟨i,t,rfl,rfl⟩:=a;obtain⟨j,e,rfl,rfl⟩:=d;cases c with
  |true=>exact oneLt_int q
  |false=>exact kat_one _ _ (PyProof.Rows.lt_int q)
 |false=>
  obtain⟨i,t,rfl,rfl⟩:=a;obtain⟨j,e,rfl,rfl⟩:=d;cases c with
  |true=>exact oneLt_str q
  |false=>exact kat_one _ _ (PyProof.Rows.lt_str q)
end
def kC:List Bool->List D->List Value->Prop
 | [],xs,us=>xs=[]/\us=[]
 |b::bs,xs,us=>∃x r u t,xs=x::r/\us=u::t/\ofK b x=Z7/\qK b x u/\kC bs r t
theorem DV {K:Z5}:∀{bs:List Bool} {d:List D} {f:List V} {g:List Value},cH bs d=Z7->Reps K H B f d->Vals f g->kC bs d g
 | [],d,f,g,h,r,rv=>by have e:=fI h;subst e;subst r;cases rv;exact⟨rfl,rfl⟩
 |b::bs,d,f,g,h,r,rv=>by
  obtain⟨x,i,rfl,j,k⟩:=eL h;obtain⟨v,t,rfl,l,m⟩:=r;cases rv with
  |cons a c=>exact⟨x,i,_,_,rfl,rfl,j,Jq j l a,DV k m c⟩
theorem Js:∀{bs:List Bool} {a d:List D} {f g:List Value} i,kC bs a f->kC bs d g->Q (aF a d) s->KatLex prog w A b Z6 Q (f.zip g) i s
 | [],a,d,f,g,i,h,j,q=>by obtain⟨rfl,rfl⟩:=h;obtain⟨rfl,rfl⟩:=j;exact q
 |c::bs,a,d,f,g,i,h,j,q=>by
  obtain⟨x,a,u,f,rfl,rfl,hx,k,h⟩:=h;obtain⟨y,d,v,g,rfl,rfl,m,l,j⟩:=j;refine kat_cons (Rt k l ?_);rw[sH]at q;cases e:aY x y with
  |true=>rw[e]at q;exact kat_yes (Js (i+1) h j q)
  |false=>rw[e]at q;exact kat_no (Jr _ k l q)
theorem DW:∀{bs:List Bool} {c:List D} {a:List Value},kC bs c a->a.length=bs.length
 | [],_,_,h=>by rw[h.2];rfl
 |b::bs,_,_,h=>by obtain⟨x,r,u,t,rfl,rfl,_,_,h⟩:=h;rw[a8,a8,DW h]
theorem z16.some (x:z16 P w H h a o):∃q,h.get? a=Z9 q:=by
 cases o with
 |lst xs=>obtain⟨_,_,_,_,e⟩:=x;exact⟨_,e⟩
 |tup xs=>obtain⟨_,_,_,_,e⟩:=x;exact⟨_,e⟩
 |dK kvs=>obtain⟨_,_,_,_,o,_,_,e,_⟩:=x;exact⟨_,e⟩
 |own y=>exact x
 |eU ob u=>exact⟨_,x.1⟩
 |lB ps=>exact⟨_,x⟩
 |ext φ=>obtain⟨p,⟨o,e⟩,st⟩:=x;exact⟨_,e⟩
theorem _root_.L2.Inv.laidF {D:Addr}(I:Inv X a y H s)(hm:s.heap.Ns X.env.locals m)(d:h.Ns X.env.locals m)
  (kp:∀b u,b≠X.env.locals->s.heap.get? b=Z9 u->h.get? b=Z9 u) (l:s.heap.get? D=Z8) (new:z16 X.prog X.w (upd H D o) h D o):Inv X a y (upd H D o) {s with heap:=h,toks:=t'}:=by
 have f:H D=none:=by
  cases e:H D with
  |none=>rfl
  |some u=>obtain⟨q,p⟩:=z16.some (I.hok D u e);rw[l]at p;cases p
 refine I.step (ch:=[]) (λ_ z=>nomatch z) (λb q i _ _ e _=>kp b q i e) (λb q i _ _ e _=>⟨q.slots,kp b q i e⟩) (λb q _ e n=>?_) (λb q _ e=>?_) (λb r q=>by rw[aS (dF q f)];exact q) (λb u r q=>by rw[aS (dF q f)];exact q) (λb ps q=>⟨#[],by rw[aS (dF q f),q];simp⟩) (λB j=>?_) (λb u e=>?_) I.bare
 .rw[aS (λz=>by subst z;rw[l]at e;cases e)];exact n
 .by_cases g:b=X.env.locals
  .subst g;obtain⟨A,_,_,k,_⟩:=d;exact⟨A,k⟩
  .exact⟨q,kp b q g e⟩
 .rw[j.eq_nsMap,<-hm.eq_nsMap];exact d
 .by_cases g:b=D
  .subst g;rw[bQ]at e;cases e;exact new
  .rw[aS g]at e;have t:∀c v,H c=Z9 v->c≠X.env.locals:=λc v x z=>by subst z;rw[I.free]at x;cases x
   refine(I.hok b u e).stay (λc v hc q=>kp c v ?_ q) (λc q=>by rw[aS (dF q f)];exact q) λc r q=>by rw[aS (dF q f)];exact q
   rcases hc with rfl|hc
   .exact t _ _ e
   .exact t _ _ hc
theorem DX (r:Vals a b):∀(is:List Nat),(∀i∈is,i<a.length)->Vals (is.map λi=>a.getD i .bK) (is.map λi=>b.getD i Value.none)
 | [],_=>.nil
 |i::is,h=>by
  have c:=h i (by simp);obtain⟨u,hu,d⟩:=r.get (i:=i) (x:=a[i]) (by simp[c]);have e:a.getD i .bK=a[i]:=by simp[c]
  have f:b.getD i Value.none=u:=by rw[az,hu];rfl
  rw[bg,bg,e,f];exact .cons d (DX r is λj g=>h j (by simp[g]))
theorem DY {K:Z5}(r:Reps K H B b a):∀(is:List Nat),(∀i∈is,i<a.length)->Reps K H B (is.map λi=>b.getD i .bK) (is.map λi=>a.getD i .none)
 | [],_=>rfl
 |i::is,h=>by
  have c:=h i (by simp);obtain⟨v,e,rv⟩:=r.get (i:=i) (d:=a[i]) (by simp[c]);have f:a.getD i .none=a[i]:=by simp[c]
  have g:b.getD i .bK=v:=by rw[az,e];rfl
  rw[bg,bg,f,g];exact Reps.cons rv (DY r is λj k=>h j (by simp[k]))
section
variable {X:Cx}
theorem z26 (O:OrdOn p)(I:Inv X E σ H s)
  (hl:s.heap.IsList a k.toArray) (rv:Vals R k) (Y:Reps X.K H B R f) (h2:2<=f.length) (iL:f.length<64) (S:∀d∈f,p d)
  (ask:∀t,(∀b o,b≠X.env.locals->s.heap.get? b=Z9 o->t.get? b=Z9 o)->wpAny (model X.prog X.w) X.A.in1.in1 (v5 k.toArray) (λκ T=>T={s with heap:=t}/\∀i j C,i<f.length->j<f.length->C (bL (f.getD i .none) (f.getD j .none)) {s with heap:=t}->kas_ask X.prog X.w X.A.in1.in1 κ k i j C {s with heap:=t}) (λ_ _=>False) {s with heap:=t})
  (q:∀w U,Same H U->Rep X.K U (λa=>nw H a\/(imms f=Z6/\B a)) w (.list (z1b f))->Q w U):
  wpAny (model X.prog X.w) X.A (call (.builtin "sorted") [.ref a]) (EP X E σ Q) X.xe s:=by
 have l1:=Y.length;have l2:=rv.length;obtain⟨m,F,_⟩:=id I.loc;refine kat_sorted ⟨F,I.bk,bo I.ok.iS I.ok.above⟩ (Hh) hl (by omega) (by omega) λD e1 t F' V G=>?_
 have r:∀{h:Heap} {o:Obj},Fr X.base X.env.locals h m->News X.base X.env.locals h ((D,o)::wL X.base s.heap X.env.locals)->∀b o,b≠X.env.locals->s.heap.get? b=Z9 o->h.get? b=Z9 o:=λl n b o hb e=>by
  cases W:X.base.get? b with
  |some u=>have:=I.bk b u W;rw[e]at this;cases this;exact l.keep b _ W
  |none=>exact(n (b,o) (av _ (BW hb W e))).1
 have J:=V (D,dw "list" #[] e1) ah
 have hD:s.heap.get? D=none:=by
  cases e:s.heap.get? D with
  |none=>rfl
  |some o=>exact absurd (G (D,o) (BW J.2.1 J.2.2 e)) (cg _)
 have v:H D=none:=by
  cases e:H D with
  |none=>rfl
  |some u=>obtain⟨q,hq⟩:=z16.some (I.hok D u e);rw[hD]at hq;cases hq
 refine aN (ask t (r F' V)) λκ T zz=>?_;obtain⟨rfl,L⟩:=zz;have el:k.length=f.length:=by omega
 rw[el];refine DP (lt:=ltk (rank f)) (λi j C T x hj e hC=>?_) (kas_sort f.length) _ (Jf (by omega)) rfl λT e=>?_
 .subst e;refine L i j C x hj ?_;rw[<-DU O S x hj];exact hC _ rfl
 .subst e;refine⟨_,_,F',V,.head (λp S=>br (G p S)),λh c l n=>?_⟩;have M:=(n _ ah).1;have N:=Jp O S (by omega);obtain⟨_,g⟩:=DM f.length (by omega);generalize runT (ltk (rank f)) (kas_sort f.length)=y at N g M ⊢;have P:∀i∈y.toList,i<f.length:=λi x=>by have:=(g.toList.mem_iff).mp x;simpa using this
  have Ru:(y.toList.map λi=>R.getD i .bK).length=f.length:=by have:=g.toList.length_eq;simpa using this
  have new:z16 X.prog X.w (upd H D (.lst (y.toList.map λi=>R.getD i .bK))) h D (.lst (y.toList.map λi=>R.getD i .bK)):=⟨by rw[io];omega,_,c,DX rv y.toList (λi x=>by rw[l1];exact P i x),M⟩;refine⟨.ref D,_,I.laidF (t':=s.toks) F l.ns (r l n) hD new,rfl,q _ _ (Same.upd v) ?_⟩;rw[<-N];exact oJ v (DY (Reps.mA Y) y.toList P) (λ_ z=>z) (.inl v)
end
section
variable {X:Cx}
theorem DZ {K:Z5}(f:Reps K H B g b)(rv:Vals g a)(c:i<b.length):∃v,Rep K H B v (b.getD i .none)/\RelV v (a.getD i Value.none)/\a[i]?=Z9 (a.getD i Value.none):=by
 obtain⟨v,h,j⟩:=f.get (i:=i) (d:=b[i]) (by simp[c]);obtain⟨u,e,k⟩:=rv.get h;have l:b.getD i .none=b[i]:=by simp[c]
 have m:a.getD i Value.none=u:=by rw[az,e];rfl
 rw[l,m];exact⟨v,j,k,e⟩
theorem Rv {a:List Value}(h:u∈a):∃i,i<a.length/\a.getD i Value.none=u:=by obtain⟨i,b,e⟩:=oz h;exact⟨i,b,by rw[<-e];simp[b]⟩
theorem z5g {s:ao}(b:Bool)(m:∀d∈c,ofK b d=Z7)(h:Reps X.K H B n c)(rv:Vals n a)(l:2<=c.length)(g:Heap):
  wpAny (model X.prog X.w) A (v5 a.toArray) (λo p=>p={s with heap:=g}/\∀i j C,i<c.length->j<c.length->C (bL (c.getD i .none) (c.getD j .none)) {s with heap:=g}->kas_ask X.prog X.w A o a i j C {s with heap:=g}) (λ_ _=>False) {s with heap:=g}:=by
 have hl:a.length=c.length:=by rw[<-rv.length,h.length]
 have sc:∀i,i<c.length->qK b (c.getD i .none) (a.getD i Value.none):=λi f=>by obtain⟨v,q,l,_⟩:=DZ h rv f;exact Jq (m _ (by rw[az,ba f];exact gz f)) q l
 have ty:∀u∈a,Looks (model X.prog X.w) g (wf u) (.type (if b then "int"else "str")):=λu hu=>by
  obtain⟨i,f,rfl⟩:=Rv hu;have:=sc i (by omega);cases b with
  |true=>obtain⟨k,t,_,e⟩:=this;rw[e];exact Looks.of_pure rfl
  |false=>obtain⟨k,t,_,e⟩:=this;rw[e];exact Looks.of_pure rfl
 refine kas_kind (by omega) ty (by cases b<;>decide) (by cases b<;>decide) ⟨rfl,λi j C f r x=>?_⟩;exact Jr Z7 (sc i f) (sc j r) x
theorem zqu (I:Inv X m P H s)(kp:∀b o,s.heap.get? b=Z9 o->o.cls=.type "tuple"->b≠X.env.locals->w.get? b=Z9 o)(b:Bool)(bs:List Bool):
  ∀{j:List D} {i:List V} {e:List Value},(∀d∈j,z2n (b::bs) d=Z7)->Reps X.K H B i j->Vals i e->∃fs,KatTups w e fs/\fs.length=e.length/\∀f∈fs,∃x,qK b x f
 | [],i,e,_,r,rv=>by subst r;cases rv;exact⟨[],trivial,rfl,λ_ z=>nomatch z⟩
 |y::j,i,e,p,r,rv=>by
  obtain⟨v,t,rfl,A,C⟩:=r;cases rv with
  |cons a c=>
   obtain⟨fs,E,F,G⟩:=zqu I kp b bs (λd hd=>p d (by simp[hd])) C c;obtain⟨Q,rfl,hs⟩:=kA (p y (by simp));obtain⟨J,ws,rfl,L,k⟩:=A;cases a;obtain⟨M,N,⟨o,ho,q,n,hd⟩,_⟩:=I.tuple L;have l:J≠X.env.locals:=by intro z;subst z;obtain⟨_,⟨R,es,ep,g,h,_⟩,_⟩:=id I.loc;rw[ho]at g;cases g;rw[hd]at h;cases h
   obtain⟨x,r,u,S,rfl,rfl,_,O,_⟩:=DV hs k N;exact⟨u::fs,KatTups.cons (kp _ _ ho q l) q hd (by simp) E,by simp[F],λf hf=>(aw.mp hf).elim (λz=>⟨x,by rw[z];exact O⟩) (G f)⟩
theorem zen (I:Inv X E σ H s)(b:Bool)(bs:List Bool)(F:∀d∈c,z2n (b::bs) d=Z7)(r:Reps X.K H B N c)(rv:Vals N a)(h2:2<=c.length)(kp:∀b o,s.heap.get? b=Z9 o->o.cls=.type "tuple"->b≠X.env.locals->g.get? b=Z9 o):
  wpAny (model X.prog X.w) A (v5 a.toArray) (λO P=>P={s with heap:=g}/\∀i j C,i<c.length->j<c.length->C (bL (c.getD i .none) (c.getD j .none)) {s with heap:=g}->kas_ask X.prog X.w A O a i j C {s with heap:=g}) (λ_ _=>False) {s with heap:=g}:=by
 have hl:a.length=c.length:=by rw[<-rv.length,r.length]
 obtain⟨fs,Q,k2,R⟩:=zqu I kp b bs F r rv
 have ty:∀u∈fs,Looks (model X.prog X.w) g (wf u) (.type (if b then "int"else "str")):=λu hu=>by
  obtain⟨x,this⟩:=R u hu;cases b with
  |true=>obtain⟨k,t,_,e⟩:=this;rw[e];exact Looks.of_pure rfl
  |false=>obtain⟨k,t,_,e⟩:=this;rw[e];exact Looks.of_pure rfl
 have part:∀i,i<c.length->∃h q o f n,a.getD i Value.none=.ref h/\c.getD i .none=.tuple q/\g.get? h=Z9 o/\o.data=.seq (li f) n/\kC (b::bs) q f:=λi l=>by
  obtain⟨v,G,S,_⟩:=DZ r rv l;obtain⟨q,ex,hs⟩:=kA (F (c.getD i .none) (by rw[az,ba l];exact gz l));rw[ex]at G;obtain⟨h,ws,rfl,T,y⟩:=G;obtain⟨f,U,⟨o,ho,V,n,hd⟩,_⟩:=I.tuple T;have D:h≠X.env.locals:=by intro z;subst z;obtain⟨_,⟨o',es,ep,m,p,_⟩,_⟩:=id I.loc;rw[ho]at m;cases m;rw[hd]at p;cases p
  exact⟨h,q,o,f,n,S,ex,kp _ _ ho V D,hd,DV hs y U⟩
 refine kat_kind Q (by omega) ty (by cases b<;>decide) ⟨rfl,λi j C l W J=>?_⟩;obtain⟨ai,xi,oi,Y,ni,e1,e2,e3,e4,L⟩:=part i l;obtain⟨aj,xj,oj,jj,nj,f1,f2,f3,f4,M⟩:=part j W;show wpAny _ _ (keyLt' _ (a.getD i Value.none) (a.getD j Value.none)) C _ _;rw[e1,f1];refine kat_lt e3 e4 f3 f4 ?_;have ef:decide ((li Y).size<(li jj).size)=false:=by rw[bn,bn,DW L,DW M];simp
 rw[ef];rw[e2,f2]at J;exact Js 0 L M J
end
def sJ (A:dh)(s:ao)(a b:Value)(r:Bool):Prop:=∀(prog:b9) (w:World) (E:Value->ao->Prop) (Q:Value->ao->Prop),Q (.bool r) s->wpAny (model prog w) A (richCompare .Lt a b) Q E s
def mC (A:dh)(s:ao)(fin:Bool):List (Value×Value)->Bool->Prop
 | [],r=>r=fin
 |(p,q)::l,r=>∃e,SeqAt.EqAt A s p q e/\if e=Z7 then mC A s fin l r else sJ A s p q r
theorem zo0
  (ha:s.heap.get? a=Z9 oa) (da:oa.data=.seq xs na) (hb:s.heap.get? b=Z9 ob) (cb:ob.cls=.type "tuple") (db:ob.data=.seq ys nb) (h:mC A s (decide (xs.size<ys.size)) (xs.toList.zip ys.toList) r) (q:P (.done (.ret (.bool r))) s):
  wpAny (model prog w) A (Builtin.«tuple.__lt__» ⟨[.ref a,.ref b],[]⟩) P E s:=by
 refine aa (m:=xl (.ref b) (.type "tuple")) (ql ⟨ob,hb,cb⟩ se ?_);refine aa (ph ha da (aa (ph hb db (aa ?_))));refine j7 _ (λl z s'=>z.1=Z8/\s'=s/\mC A s (decide (xs.size<ys.size)) l r) _ ?_ ?_ _ _ ⟨rfl,rfl,h⟩
 .rintro⟨u,v⟩ l z s' ⟨hz,rfl,e,he,ht⟩
  refine aa (he prog w _ _ ?_);cases e with
  |true=>exact ae ⟨rfl,rfl,ht⟩
  |false=>refine aa (jk (aa (ht prog w _ _ (aa (ae ?_)))));exact ae (ae q)
 .rintro⟨z,z'⟩ s' ⟨hz,rfl,ht⟩
  subst hz;have hr:=ht;rw[hr]at q;exact ae q
theorem zt4 (hu:A.units<cLine)(ha:s.heap.get? a=Z9 oa)(ca:oa.cls=.type "tuple")(da:oa.data=.seq xs na)(hb:s.heap.get? b=Z9 ob)(cb:ob.cls=.type "tuple")(db:ob.data=.seq ys nb)
  (h:mC A.in1 s (decide (xs.size<ys.size)) (xs.toList.zip ys.toList) r):sJ A s (.ref a) (.ref b) r:=λprog w E Q q=>
 wpAny_richCompare_same_room ⟨oa,ha,ca⟩ ⟨ob,hb,cb⟩ F.slot_tuple_lt (f9 F.slot_tuple_lt ⟨oa,ha,ca⟩ F.entry_tuple_lt (zo0 ha da hb cb db h ⟨_,rfl,by simp,q⟩) (F.args_tuple_lt_2 _ _)) hu
theorem in1_units (A:dh):A.in1.units=A.units+1:=rfl
mutual
theorem Jt:∀(x y:ak) {A:dh} {s:ao} {a b:Value} {as bs:List Addr},Reads s.heap a x as->Reads s.heap b y bs->x.canLay0=Z7->y.canLay0=Z7->cmpb x y=Z7->A.units+x.depth+1<cLine->sJ A s a b (bL x y)
 |.int i,y,A,s,a,b,as,bs,ra,rb,ha,hb,hc,hu=>by
  cases y<;>try (cases hc;done)
  cases ra;cases rb;exact λprog w E Q q=>PyProof.Rows.lt_int q
 |.str i,y,A,s,a,b,as,bs,ra,rb,ha,hb,hc,hu=>by
  cases y<;>try (cases hc;done)
  cases ra;cases rb;exact λprog w E Q q=>PyProof.Rows.lt_str q
 |.tuple xs,y,A,s,a,b,as,bs,ra,rb,ha,hb,hc,hu=>by
  cases y<;>try (cases hc;done)
  rename_i ys;cases ra with
  |tuple h1 h2 h3 h4=>
   cases rb with
   |tuple k1 k2 k3 k4=>refine zt4 (by omega) h1 h2 h3 k1 k2 k3 ?_;have e1:=SeqAt.ReadsAll.length _ _ _ h4;have e2:=SeqAt.ReadsAll.length _ _ _ k4;rw[<-bq,<-bq,e1,e2];exact Ju xs ys h4 k4 ha hb hc (by rw[in1_units];simp only[PyData.depth]at hu;omega)
 |.none,y,A,s,a,b,as,bs,ra,rb,ha,hb,hc,hu=>by cases hc
 |.bool _,y,A,s,a,b,as,bs,ra,rb,ha,hb,hc,hu=>by cases hc
 |.list _,y,A,s,a,b,as,bs,ra,rb,ha,hb,hc,hu=>by cases hc
 |.dict _,y,A,s,a,b,as,bs,ra,rb,ha,hb,hc,hu=>by cases hc
theorem Ju:∀(xs ys:List ak) {A:dh} {s:ao} {us vs:List Value} {as bs:List Addr},pd s.heap us xs as->pd s.heap vs ys bs->ZY xs=Z7->ZY ys=Z7->z2z xs ys=Z7->A.units+ZX xs+1<cLine->mC A s (decide (xs.length<ys.length)) (us.zip vs) (aF xs ys)
 | [],ys,A,s,us,vs,as,bs,ra,rb,ha,hb,hc,hu=>by
  cases ra;cases rb with
  |nil=>exact rfl
  |cons _ _=>exact rfl
 |x::xs,ys,A,s,us,vs,as,bs,ra,rb,ha,hb,hc,hu=>by
  cases ra with
  |cons r1 r2=>
   cases rb with
   |nil=>exact rfl
   | @cons v gU y qH _ _ k1 k2=>
    rw[ZY,ax]at ha hb;rw[z2z,ax]at hc;simp only[ZX]at hu;refine⟨aY x y,SeqAt.eqAt_reads _ _ _ _ _ _ _ _ r1 k1 ha.1 hb.1 (by omega),?_⟩;rw[sH];cases e:aY x y with
    |true=>
     rw[xp rfl,xp rfl];have el:decide ((x::xs).length<(y::qH).length)=decide (xs.length<qH.length):=by simp
     rw[el];exact Ju xs qH r2 k2 ha.2 hb.2 hc.2 (by omega)
    |false=>rw[xq c7,xq c7];exact Jt x y r1 k1 ha.1 hb.1 hc.1 (by omega)
end
structure fS (p:D->Prop):Prop extends OrdOn p where
 eq:∀x y,p x->p y->(aY x y=Z7↔x=y)
structure bH (q:List D->Prop):Prop where
 fR:∀x,q x->aF x x=Z6
 tr:∀x y z,q x->q y->q z->aF x y=Z7->aF y z=Z7->aF x z=Z7
 gV:∀x y z,q x->q y->q z->aF x z=Z7->aF x y=Z7\/aF y z=Z7
 fY:∀x y,q x->q y->aF x y=Z6->aF y x=Z6->x=y
 eq:∀x y,q x->q y->(ZW x y=Z7↔x=y)
section
variable {p:D->Prop}(O:fS p){x y z:D}{xs ys zs:List D}
include O
theorem eY (hx:p x)(a:p y)(h:x=y):aF (x::xs) (y::ys)=aF xs ys:=by rw[sH,xp ((O.eq x y hx a).mpr h)]
theorem dU (hx:p x)(a:p y)(h:x≠y):aF (x::xs) (y::ys)=bL x y:=by rw[sH,xq λz=>h ((O.eq x y hx a).mp z)]
theorem ym (hx:p x)(hy:p y)(hz:p z)(ih:aF xs ys=Z7->aF ys zs=Z7->aF xs zs=Z7)(e1:aF (x::xs) (y::ys)=Z7)(e2:aF (y::ys) (z::zs)=Z7):aF (x::xs) (z::zs)=true:=by
 by_cases xy:x=y
 .rw[eY O hx hy xy]at e1;by_cases yz:y=z
  .rw[eY O hy hz yz]at e2;rw[eY O hx hz (xy.trans yz)];exact ih e1 e2
  .rw[dU O hy hz yz]at e2;rw[dU O hx hz (xy▸yz),xy];exact e2
 .rw[dU O hx hy xy]at e1;by_cases yz:y=z
  .rw[dU O hx hz (yz▸xy),<-yz];exact e1
  .rw[dU O hy hz yz]at e2;have e3:=O.tr x y z hx hy hz e1 e2;rw[dU O hx hz (λq=>by subst q;rw[O.fR x hx]at e3;cases e3)];exact e3
theorem Jv (hx:p x)(a:p y)(c:p z)(g:aF xs zs=Z7->aF xs ys=Z7\/aF ys zs=Z7)(e:aF (x::xs) (z::zs)=Z7):aF (x::xs) (y::ys)=Z7\/aF (y::ys) (z::zs)=true:=by
 by_cases d:x=z
 .rw[eY O hx c d]at e;by_cases b:x=y
  .rw[eY O hx a b,eY O a c (b.symm.trans d)];exact g e
  .rw[dU O hx a b,dU O a c (λq=>b (d.trans q.symm)),<-d];cases h:bL x y with
   |true=>exact .inl rfl
   |false=>
    cases i:bL y x with
    |true=>exact .inr rfl
    |false=>exact(b (O.fY x y hx a h i)).elim
 .rw[dU O hx c d]at e;by_cases b:x=y
  .rw[dU O a c (λq=>d (b.trans q)),<-b];exact .inr e
  .rw[dU O hx a b];by_cases f:y=z
   .rw[f];exact .inl e
   .rw[dU O a c f];exact O.gV x y z hx a c e
theorem Jw (hx:p x)(b:p y)(e:aF xs ys=Z6->aF ys xs=Z6->xs=ys)(c:aF (x::xs) (y::ys)=Z6)(d:aF (y::ys) (x::xs)=Z6):x::xs=y::ys:=by
 by_cases a:x=y
 .rw[eY O hx b a]at c;rw[eY O b hx a.symm]at d;rw[a,e c d]
 .rw[dU O hx b a]at c;rw[dU O b hx (λq=>a q.symm)]at d;exact(a (O.fY x y hx b c d)).elim
theorem Jx (hx:p x)(a:p y)(b:ZW xs ys=Z7↔xs=ys):ZW (x::xs) (y::ys)=Z7↔x::xs=y::ys:=by rw[ZW,ax,b,List.cons.injEq];exact and_congr (O.eq x y hx a) Iff.rfl
end
theorem bH.nil:bH (λl=>l=[]) where
 fR:=λx h=>by rw[h];exact Ay
 tr:=λx y z a b c d f=>by rw[a,b]at d;cases d
 gV:=λx y z a b c e=>by rw[a,c]at e;cases e
 fY:=λx y a b _ _=>a.trans b.symm
 eq:=λx y a b=>by rw[a,b];exact⟨λ_=>rfl,λ_=>rfl⟩
theorem bH.cons {p:D->Prop}{q:List D->Prop}(O:fS p)(L:bH q):bH (λl=>∃x r,l=x::r/\p x/\q r) where
 fR:=λl h=>by obtain⟨x,r,rfl,hx,hr⟩:=h;rw[eY O hx hx rfl];exact L.fR r hr
 tr:=λl1 l2 l3 h1 h2 h3=>by obtain⟨x,r,rfl,hx,hr⟩:=h1;obtain⟨y,t,rfl,hy,ht⟩:=h2;obtain⟨z,u,rfl,hz,hu⟩:=h3;exact ym O hx hy hz (L.tr _ _ _ hr ht hu)
 gV:=λl1 l2 l3 h1 h2 h3=>by obtain⟨x,r,rfl,hx,hr⟩:=h1;obtain⟨y,t,rfl,hy,ht⟩:=h2;obtain⟨z,u,rfl,hz,hu⟩:=h3;exact Jv O hx hy hz (L.gV _ _ _ hr ht hu)
 fY:=λl1 l2 h1 h2=>by obtain⟨x,r,rfl,hx,hr⟩:=h1;obtain⟨y,t,rfl,hy,ht⟩:=h2;exact Jw O hx hy (L.fY _ _ hr ht)
 eq:=λl1 l2 h1 h2=>by obtain⟨x,r,rfl,hx,hr⟩:=h1;obtain⟨y,t,rfl,hy,ht⟩:=h2;exact Jx O hx hy (L.eq _ _ hr ht)
theorem Rw (h:aF [] a=Z7):∃y r,a=y::r:=by
 cases a with
 |nil=>rw[Ay]at h;cases h
 |cons y r=>exact⟨y,r,rfl⟩
theorem yn (y:D)(r:List D):aF [] (y::r)=true:=by simp[aF]
theorem Az (y:D)(r:List D):aF (y::r) []=false:=by simp[aF]
section
variable {p:D->Prop}(O:fS p)
include O
theorem Jy:∀a:List D,(∀x∈a,p x)->aF a a=Z6
 | [],_=>Ay
 |x::a,h=>by rw[eY O (h x (by simp)) (h x (by simp)) rfl];exact Jy a λz b=>h z (by simp[b])
theorem yo:∀c d a:List D,(∀x∈c,p x)->(∀x∈d,p x)->(∀x∈a,p x)->aF c d=Z7->aF d a=Z7->aF c a=Z7
 | [],d,a,f,g,h,e,b=>by
  obtain⟨y,r,rfl⟩:=Rw e;cases a with
  |nil=>rw[Az]at b;cases b
  |cons z t=>exact yn z t
 |x::c,[],a,f,g,h,e,b=>by rw[Az]at e;cases e
 |x::c,y::d,[],f,g,h,e,b=>by rw[Az]at b;cases b
 |x::c,y::d,z::a,f,g,h,e,b=>ym O (f x (by simp)) (g y (by simp)) (h z (by simp)) (yo c d a (λw i=>f w (by simp[i])) (λw i=>g w (by simp[i])) λw i=>h w (by simp[i])) e b
theorem Jz:∀c b a:List D,(∀x∈c,p x)->(∀x∈b,p x)->(∀x∈a,p x)->aF c a=Z7->aF c b=Z7\/aF b a=Z7
 | [],[],a,d,f,g,e=>.inr e
 | [],y::b,a,d,f,g,e=>.inl (yn y b)
 |x::c,b,[],d,f,g,e=>by rw[Az]at e;cases e
 |x::c,[],z::a,d,f,g,e=>.inr (yn z a)
 |x::c,y::b,z::a,d,f,g,e=>Jv O (d x (by simp)) (f y (by simp)) (g z (by simp)) (Jz c b a (λw h=>d w (by simp[h])) (λw h=>f w (by simp[h])) λw h=>g w (by simp[h])) e
theorem JA:∀a b:List D,(∀x∈a,p x)->(∀x∈b,p x)->aF a b=Z6->aF b a=Z6->a=b
 | [],[],e,f,c,d=>rfl
 | [],y::b,e,f,c,d=>by rw[yn]at c;cases c
 |x::a,[],e,f,c,d=>by rw[yn]at d;cases d
 |x::a,y::b,e,f,c,d=>Jw O (e x (by simp)) (f y (by simp)) (JA a b (λw g=>e w (by simp[g])) λw g=>f w (by simp[g])) c d
theorem yq:∀a b:List D,(∀x∈a,p x)->(∀x∈b,p x)->(ZW a b=Z7↔a=b)
 | [],[],c,d=>⟨λ_=>rfl,λ_=>rfl⟩
 | [],y::b,c,d=>⟨λh=>by simp[ZW]at h,λh=>nomatch h⟩
 |x::a,[],c,d=>⟨λh=>by simp[ZW]at h,λh=>nomatch h⟩
 |x::a,y::b,c,d=>Jx O (c x (by simp)) (d y (by simp)) (yq a b (λw e=>c w (by simp[e])) λw e=>d w (by simp[e]))
theorem bH.all:bH (λl=>∀x∈l,p x):=⟨Jy O,yo O,Jz O,JA O,yq O⟩
end
theorem bH.tup {q:List D->Prop}(L:bH q):fS (λd=>∃l,d=.tuple l/\q l) where
 fR:=λd h=>by obtain⟨l,rfl,h⟩:=h;exact L.fR l h
 tr:=λx y z a b c=>by obtain⟨l,rfl,a⟩:=a;obtain⟨m,rfl,b⟩:=b;obtain⟨n,rfl,c⟩:=c;exact L.tr l m n a b c
 gV:=λx y z a b c=>by obtain⟨l,rfl,a⟩:=a;obtain⟨m,rfl,b⟩:=b;obtain⟨n,rfl,c⟩:=c;exact L.gV l m n a b c
 fY:=λx y a b e f=>by obtain⟨l,rfl,a⟩:=a;obtain⟨m,rfl,b⟩:=b;rw[L.fY l m a b e f]
 eq:=λx y a b=>by obtain⟨l,rfl,a⟩:=a;obtain⟨m,rfl,b⟩:=b;show ZW l m=Z7↔_;rw[L.eq l m a b];exact⟨λh=>by rw[h],λh=>by cases h;rfl⟩
theorem fS.of (O:fS q)(h:∀d,p d->q d):fS p where
 fR:=λx hx=>O.fR x (h x hx)
 tr:=λx y z hx a b=>O.tr x y z (h x hx) (h y a) (h z b)
 gV:=λx y z hx a b=>O.gV x y z (h x hx) (h y a) (h z b)
 fY:=λx y hx a=>O.fY x y (h x hx) (h y a)
 eq:=λx y hx a=>O.eq x y (h x hx) (h y a)
theorem JB (b:Bool):fS (λx=>ofK b x=Z7):=⟨oR b,λ_ _=>DQ⟩
theorem bH.sh:∀bs,bH (λl=>cH bs l=Z7)
 | []=>⟨λx h=>bH.nil.fR x (fI h),λx y z h1 h2 h3=>bH.nil.tr x y z (fI h1) (fI h2) (fI h3),λx y z h1 h2 h3=>bH.nil.gV x y z (fI h1) (fI h2) (fI h3),λx y h1 h2=>bH.nil.fY x y (fI h1) (fI h2),λx y h1 h2=>bH.nil.eq x y (fI h1) (fI h2)⟩
 |b::bs=>by have L:=bH.cons (JB b) (bH.sh bs);exact⟨λx h=>L.fR x (eL h),λx y z h1 h2 h3=>L.tr x y z (eL h1) (eL h2) (eL h3),λx y z h1 h2 h3=>L.gV x y z (eL h1) (eL h2) (eL h3),λx y h1 h2=>L.fY x y (eL h1) (eL h2),λx y h1 h2=>L.eq x y (eL h1) (eL h2)⟩
section
variable {X:Cx}{pins:List (Addr×Obj)}{σ:L2.St}{H:Hp}{s:ao}{B:Ad->Prop}{h':Heap}
mutual
theorem JC (I:Inv X pins σ H s)(kp:∀b o,s.heap.get? b=Z9 o->o.cls=.type "tuple"->b≠X.env.locals->h'.get? b=Z9 o):∀{v:V} {u:Value} (d:ak) (n:Nat),cmpb d d=Z7->shal n d=Z7->Rep X.K H B v d->RelV v u->(∃as,Reads h' u d as)/\d.canLay0=Z7/\d.depth<=n
 |v,u,.int b,n,_,_,r,q=>by have e:v=.int b:=r;subst e;obtain⟨t,rfl⟩:=q;exact⟨⟨[],.int b t⟩,by simp only[ZZ],dr _⟩
 |v,u,.str b,n,_,_,r,q=>by obtain⟨e,ok⟩:v=.str b/\_:=r;subst e;obtain⟨t,rfl⟩:=q;exact⟨⟨[],.str b t⟩,by simp only[ZZ];exact ok,dr _⟩
 |v,u,.tuple ds,0,_,h,r,q=>by cases h
 |v,u,.tuple ds,n+1,hc,h,r,q=>by
  obtain⟨a,vs,e,h1,r1⟩:=r;subst e;cases q;obtain⟨its,rv,⟨o,ho,eO,k,hd⟩,_⟩:=I.tuple h1;have cU:a≠X.env.locals:=λz=>by subst z;obtain⟨_,⟨o',es,ep,ho',iW,_⟩,_⟩:=id I.loc;rw[ho]at ho';cases ho';rw[hd]at iW;cases iW
  obtain⟨⟨as,ra⟩,c,dp⟩:=JD I kp ds n hc h r1 rv;refine⟨⟨as,.tuple (kp _ _ ho eO cU) eO hd (by simpa using ra)⟩,by simp only[ZZ];exact c,?_⟩;simp only[PyData.depth];omega
 |v,u,.none,n,hc,h,r,q=>by cases hc
 |v,u,.bool _,n,hc,h,r,q=>by cases hc
 |v,u,.list _,n,hc,h,r,q=>by cases hc
 |v,u,.dict _,n,hc,h,r,q=>by cases hc
theorem JD (I:Inv X pins σ H s)(kp:∀b o,s.heap.get? b=Z9 o->o.cls=.type "tuple"->b≠X.env.locals->h'.get? b=Z9 o):∀{vs:List V} {us:List Value} (ds:List ak) (n:Nat),z2z ds ds=Z7->cQ n ds=Z7->Reps X.K H B vs ds->Vals vs us->(∃as,pd h' us ds as)/\ZY ds=Z7/\ZX ds<=n
 |vs,us,[],n,_,_,r,q=>by have e:vs=[]:=r;subst e;cases q;exact⟨⟨[],.nil⟩,by simp only[ZY],dr _⟩
 |vs,us,d::ds,n,hc,h,r,q=>by
  obtain⟨v,t,e,h1,r1⟩:=r;subst e;rw[cQ,ax]at h;rw[z2z,ax]at hc;cases q with
  |cons q1 q2=>obtain⟨⟨as,ra⟩,c,dp⟩:=JC I kp d n hc.1 h.1 h1 q1;obtain⟨⟨bs,rb⟩,c2,Dc⟩:=JD I kp ds n hc.2 h.2 r1 q2;refine⟨⟨as++bs,.cons ra rb⟩,by simp only[ZY,c,c2,ui],?_⟩;simp only[ZX];exact Nat.max_le.mpr ⟨dp,Dc⟩
end
end
def fstK (t:Bool):D->Bool
 |.tuple (.str _::_)=>!t
 |.tuple (.tuple _::_)=>t
 |_=>Z6
theorem lexN:∀(xs ys:List D) {us vs:List Value} {as bs:List Addr} (i:Nat),pd s.heap us xs as->pd s.heap vs ys bs->ZY xs=Z7->ZY ys=Z7->z2z xs ys=Z7->A.units+ZX xs+1<cLine->
  (b=Z7->i=0->∀x r,xs=x::r->uS x=Z7)->Q (aF xs ys) s->KatLex prog w A b (decide (xs.length<ys.length)) Q (us.zip vs) i s
 | [],ys,us,vs,as,bs,i,ra,rb,ha,hb,hc,hu,hf,q=>by
  cases ra;cases rb with
  |nil=>exact q
  |cons _ _=>exact q
 |x::xs,ys,us,vs,as,bs,i,ra,rb,ha,hb,hc,hu,hf,q=>by
  cases ra with
  |cons r1 r2=>
   cases rb with
   |nil=>exact q
   | @cons v gU y qH _ _ k1 k2=>
    rw[ZY,ax]at ha hb;rw[z2z,ax]at hc;simp only[ZX]at hu;refine kat_cons (SeqAt.eqAt_reads _ _ _ _ _ _ _ _ r1 k1 ha.1 hb.1 (by omega) prog w _ _ ?_);rw[sH]at q;have el:decide ((x::xs).length<(y::qH).length)=decide (xs.length<qH.length):=by simp
    rw[el];cases e:PyData.eqv x y with
    |true=>rw[show aY x y=Z7 from e,xp rfl]at q;exact kat_yes (lexN xs qH (i+1) r2 k2 ha.2 hb.2 hc.2 (by omega) (λ_ z=>nomatch z) q)
    |false=>
     rw[show aY x y=Z6 from e,xq c7]at q;refine kat_no ?_;cases D0:(b&&i==0)with
     |false=>exact kat_one _ _ (Jt x y r1 k1 ha.1 hb.1 hc.1 (by omega) prog w _ _ q)
     |true=>
      rw[ax,beq_iff_eq]at D0;obtain⟨z,rfl⟩:=jA (hf D0.1 D0.2 x xs rfl);have Rx:=hc.1;cases y<;>try (cases Rx;done)
      cases r1;cases k1;exact oneLt_str q
def sM (h':Heap)(t:Bool)(d:D)(u:Value):Prop:=∃ad x xs o vs n as,u=.ref ad/\d=.tuple (x::xs)/\fstK t d=Z7/\h'.get? ad=Z9 o/\o.cls=.type "tuple"/\o.data=.seq vs n/\pd h' vs.toList (x::xs) as/\ZY (x::xs)=Z7/\ZX (x::xs)<=30
def D1 (h':Heap)(t:Bool):List D->List Value->Prop
 | [],us=>us=[]
 |d::ds,us=>∃u r,us=u::r/\sM h' t d u/\D1 h' t ds r
def JE (t:Bool):Value:=.type (if t then "tuple"else "str")
section
variable {X:Cx}{pins:List (Addr×Obj)}{σ:L2.St}{H:Hp}{s:ao}{B:Ad->Prop}{h':Heap}{t:Bool}
theorem JF (I:Inv X pins σ H s)(kp:∀b o,s.heap.get? b=Z9 o->o.cls=.type "tuple"->b≠X.env.locals->h'.get? b=Z9 o)(hf:fstK t d=Z7)(hs:shal 30 d=Z7)(hc:cmpb d d=Z7)(r:Rep X.K H B v d)(ru:RelV v u):sM h' t d u:=by
 cases d<;>try (cases hf;done)
 rename_i ds;cases ds with
 |nil=>cases hf
 |cons x xs=>
  obtain⟨⟨as,ra⟩,c,dp⟩:=JC I kp (.tuple (x::xs)) 30 hc hs r ru;cases ra with
  |tuple h1 h2 h3 h4=>exact⟨_,x,xs,_,_,_,as,rfl,rfl,hf,h1,h2,h3,h4,by simpa only[ZZ]using c,by simp only[PyData.depth]at dp;omega⟩
theorem JG:∀{ys:List D} {its:List Value},D1 h' t ys its->∃fs,KatTups h' its fs/\fs.length=its.length/\∀f∈fs,Looks (model P w) h' (wf f) (JE t)
 | [],its,h=>by have e:=h;subst e;exact⟨[],trivial,rfl,λ_ z=>nomatch z⟩
 |d::ys,its,h=>by
  obtain⟨u,iF,rfl,a,r⟩:=h;obtain⟨fs,k1,k2,k3⟩:=JG (P:=P) (w:=w) r;obtain⟨ad,x,xs,o,vs,n,as,rfl,rfl,hf,h1,h2,h3,h4,_⟩:=a;generalize hl:vs.toList=l at h4;cases h4 with
  | @cons f l' _ _ _ _ r1 r2=>
   refine⟨f::fs,KatTups.cons h1 h2 h3 (by rw[<-d9,hl];rfl) k1,by simp[k2],λg hg=>(aw.mp hg).elim (λz=>?_) (k3 g)⟩;rw[z];cases x<;>try (cases hf;done)
   .cases t<;>try (cases hf;done)
    cases r1;exact Looks.of_pure rfl
   .cases t<;>try (cases hf;done)
    cases r1 with
    |tuple q1 q2 q3 q4=>have e:JE Z7=_:=q2.symm;rw[e];exact(Looks.ld q1).andThen .now
theorem ziw (I:Inv X pins σ H s)(hy:∀d∈ys,fstK t d=Z7/\shal 30 d=Z7)(hc:∀d∈ys,∀e∈ys,cmpb d e=Z7)(rs:Reps X.K H B vs ys)(rv:Vals vs its)(h2:2<=ys.length)(kp:∀b o,s.heap.get? b=Z9 o->o.cls=.type "tuple"->b≠X.env.locals->h'.get? b=Z9 o)(hu:A.units+40<cLine):
  wpAny (model X.prog X.w) A (v5 its.toArray) (λκ s'=>s'={s with heap:=h'}/\∀i j (C:Bool->ao->Prop),i<ys.length->j<ys.length->C (bL (ys.getD i .none) (ys.getD j .none)) {s with heap:=h'}->kas_ask X.prog X.w A κ its i j C {s with heap:=h'}) (λ_ _=>False) {s with heap:=h'}:=by
 have hl:its.length=ys.length:=by rw[<-rv.length,rs.length]
 have all:∀{ys:List D} {vs:List V} {its:List Value},(∀d∈ys,fstK t d=Z7/\shal 30 d=Z7/\cmpb d d=Z7)->Reps X.K H B vs ys->Vals vs its->D1 h' t ys its:=λ{ys}=>by
  induction ys with
  |nil=>intro vs its _ r rv;have e:=r;subst e;cases rv;exact rfl
  |cons y ys ih=>
   intro vs its h r rv;obtain⟨v,gU,rfl,r1,r2⟩:=r;cases rv with
   |cons a c=>obtain⟨z1,z2,z3⟩:=h y (by simp);exact⟨_,_,rfl,JF I kp z1 z2 z3 r1 a,ih (λd hd=>h d (by simp[hd])) r2 c⟩
 have fa:=all (λd hd=>⟨(hy d hd).1,(hy d hd).2,hc d hd d hd⟩) rs rv;obtain⟨fs,k1,k2,k3⟩:=JG fa;refine kat_kind k1 (by omega) k3 (by cases t<;>decide) ⟨rfl,λi j C hi hj hC=>?_⟩;have hm:∀i,i<ys.length->ys.getD i .none∈ys:=λi hi=>by rw[az,ba hi];exact gz hi
 have part:∀i,i<ys.length->sM h' t (ys.getD i .none) (its.getD i Value.none):=λi hi=>by obtain⟨v,r1,r2,_⟩:=DZ rs rv hi;exact JF I kp (hy _ (hm i hi)).1 (hy _ (hm i hi)).2 (hc _ (hm i hi) _ (hm i hi)) r1 r2
 have fZ:=hc _ (hm i hi) _ (hm j hj);obtain⟨ai,xi,ri,oi,vi,ni,YD,e1,e2,hf,e3,_,e4,e5,e6,e7⟩:=part i hi;obtain⟨aj,xj,rj,oj,vj,nj,YE,f1,f2,_,f3,_,f4,f5,f6,f7⟩:=part j hj;show wpAny _ _ (keyLt' _ (its.getD i Value.none) (its.getD j Value.none)) C _ _;rw[e1,f1];rw[e2]at hf;rw[e2,f2]at fZ hC;refine kat_lt e3 e4 f3 f4 ?_;rw[<-bq,<-bq,SeqAt.ReadsAll.length _ _ _ e5,SeqAt.ReadsAll.length _ _ _ f5];refine lexN (xi::ri) (xj::rj) 0 e5 f5 e6 f6 fZ (by omega) (λhb _ x r hx=>?_) hC;cases hx;cases t with
 |true=>exact absurd hb (by decide)
 |false=>cases xi<;>first|(cases hf;done)|rfl
end
theorem AA (h:z2n [Z6,Z7] d=Z7):∃x i,d=.tuple [.str x,.int i]:=by obtain⟨l,rfl,h⟩:=kA h;obtain⟨a,r,rfl,ha,h⟩:=eL h;obtain⟨b,r,rfl,hb,h⟩:=eL h;cases fI h;obtain⟨x,rfl⟩:=jA ha;obtain⟨i,rfl⟩:=j' hb;exact⟨x,i,rfl⟩
theorem qL (h:lN d=Z7):∃l,d=.tuple l/\∀x∈l,z2n [Z6,Z7] x=true:=by cases d<;>first|(cases h;done)|exact⟨_,rfl,a9.mp h⟩
theorem AB (h:neP d=Z7):∃x l,d=.tuple (x::l)/\∀z∈x::l,z2n [Z6,Z7] z=true:=by
 cases d<;>try (cases h;done)
 rename_i l;cases l with
 |nil=>cases h
 |cons x l=>exact⟨x,l,rfl,a9.mp h⟩
theorem AD (h:nY d=Z7):∃x a b,d=.tuple [.str x,a,b]/\lN a=Z7/\lN b=true:=by
 unfold nY at h;split at h
 .exact⟨_,_,_,rfl,(b6.mp h).1,(b6.mp h).2⟩
 .cases h
theorem AE:∀l m:List D,(∀x∈l,z2n [Z6,Z7] x=Z7)->(∀x∈m,z2n [Z6,Z7] x=Z7)->z2z l m=Z7
 | [],m,_,_=>by rw[z2z]
 |x::l,[],_,_=>by rw[z2z]
 |x::l,y::m,h1,h2=>by obtain⟨a,i,rfl⟩:=AA (h1 x (by simp));obtain⟨b,j,rfl⟩:=AA (h2 y (by simp));rw[z2z,AE l m (λz hz=>h1 z (by simp[hz])) λz hz=>h2 z (by simp[hz])];rfl
theorem D3 (n:Nat)(h:∀x∈l,z2n [Z6,Z7] x=Z7):cQ (n+1) l=true:=jJ.mpr λz hz=>by obtain⟨a,i,rfl⟩:=AA (h z hz);cases n<;>rfl
theorem D4:fS (λd=>∃l,d=.tuple l/\∀x∈l,z2n [Z6,Z7] x=Z7):=bH.tup (bH.all ((bH.tup (bH.sh [Z6,Z7])).of λ_ h=>kA h))
theorem JH {ys:List D}(h:(ys.all neP||ys.all nY)=Z7):∃(p:D->Prop) (t:Bool),OrdOn p/\(∀d∈ys,p d)/\(∀d∈ys,fstK t d=Z7/\shal 30 d=Z7)/\∀d∈ys,∀e∈ys,cmpb d e=true:=by
 rcases(eh _ _).mp h with h|h
 .rw[a9]at h;refine⟨_,Z7,D4.1,λd hd=>?_,λd hd=>?_,λd hd e he=>?_⟩
  .obtain⟨x,l,rfl,hl⟩:=AB (h d hd);exact⟨_,rfl,hl⟩
  .obtain⟨x,l,rfl,hl⟩:=AB (h d hd);obtain⟨a,i,rfl⟩:=AA (hl x (by simp));exact⟨rfl,D3 28 hl⟩
  .obtain⟨x,l,rfl,hl⟩:=AB (h d hd);obtain⟨y,m,rfl,hm⟩:=AB (h e he);exact AE _ _ hl hm
 .rw[a9]at h;refine⟨_,Z6,(bH.tup (bH.cons (JB Z6) (bH.cons D4 (bH.cons D4 bH.nil)))).1,λd hd=>?_,λd hd=>?_,λd hd e he=>?_⟩
  .obtain⟨x,a,b,rfl,ha,hb⟩:=AD (h d hd);exact⟨_,rfl,_,_,rfl,rfl,_,_,rfl,qL ha,_,_,rfl,qL hb,rfl⟩
  .obtain⟨x,a,b,rfl,ha,hb⟩:=AD (h d hd);obtain⟨l,rfl,hl⟩:=qL ha;obtain⟨m,rfl,hm⟩:=qL hb;refine⟨rfl,?_⟩;show(Z7&&(cQ 28 l&&(cQ 28 m&&Z7)))=Z7;rw[D3 27 hl,D3 27 hm];rfl
  .obtain⟨x,a,b,rfl,ha,hb⟩:=AD (h d hd);obtain⟨y,a',b',rfl,Ry,Aq⟩:=AD (h e he);obtain⟨l,rfl,hl⟩:=qL ha;obtain⟨m,rfl,hm⟩:=qL hb;obtain⟨l',rfl,uL⟩:=qL Ry;obtain⟨m',rfl,yt⟩:=qL Aq;show(Z7&&(z2z l l'&&(z2z m m'&&Z7)))=Z7;rw[AE _ _ hl uL,AE _ _ hm yt];rfl
section
variable {X:Cx}
theorem zek (hu:X.A.units+64<cLine)(I:Inv X pins σ H s)(r:Vals xs us)(hx:xs=[x])(rx:Rep X.K H B x dx)(e:z4n dx=.ok (Z7,ys))(e2:aggD "sorted" Z7 ys=.ok d)
  (q:∀w H',Same H H'->Rep X.K H' (λa=>nw H a\/(imms ys=Z6/\B a)) w d->Q w H'):wpAny (model X.prog X.w) X.A (call (.builtin "sorted") us) (EP X pins σ Q) X.xe s:=by
 subst hx;obtain⟨a,vs,rfl,mU,rs⟩:=oO rx e;simp only[aggD,show("sorted":String)≠"list" by decide,show("sorted":String)≠"tuple" by decide,if_true,if_false]at e2;split at e2
 case isFalse=>cases e2
 rename_i hc;cases e2;simp only[decide_eq_true_eq,ax,mz,true_and]at hc;obtain⟨hs,iL⟩:=hc;obtain⟨u,rfl,ru⟩:=vals1 r;cases ru;obtain⟨its,rv,pl,hz⟩:=I.list mU;have RA:its.length=ys.length:=by rw[<-rv.length,rs.length]
 by_cases h2:ys.length<2
 .refine z70 pl.isList (by omega) λD h' n hD kp ho=>?_;have hH:=I.hok.fresh hD;have I2:=I.laid (o:=.lst vs) (t':=s.toks) kp hD ⟨hz,its,n,rv,ho⟩;refine⟨.ref D,_,I2,rfl,q _ _ (Same.upd hH) ?_⟩
  have es:z1b ys=ys:=by
   match ys,h2 with
   | [],_=>rfl
   | [y],_=>rfl
   |_::_::_,h2=>simp at h2;omega
  rw[es];exact oJ hH (Reps.mA rs) (λ_ z=>z) (.inl hH)
 .have gW:2<=ys.length:=by omega
  replace hs:=(eh _ _).mp hs;rcases hs with hs|hs
  case inr=>replace hs:=((eh _ _).mp hs).resolve_left λz=>h2 (xv z);obtain⟨p,t,O,hp,hy,fZ⟩:=JH hs;exact z26 O I pl.isList rv rs gW iL hp (λh' kp=>ziw I hy fZ rs rv gW (λb o e _ hL=>kp b o hL e) (by show X.A.units+1+1+40<cLine;omega)) q
  unfold lM at hs;simp only[eh,a9]at hs;rcases hs with(hs|hs)|hs
  .exact z26 oP I pl.isList rv rs gW iL hs (λh' kp=>z5g Z7 hs rs rv gW h') q
  .exact z26 oQ I pl.isList rv rs gW iL hs (λh' kp=>z5g Z6 hs rs rv gW h') q
  .split at hs
   case h_2=>cases hs
   rename_i y0 _;simp only[ax,a9,g9]at hs;obtain⟨cU,hs⟩:=hs;cases y0 with
   |nil=>cases cU
   |cons y1 yr=>exact z26 (sI _) I pl.isList rv rs gW iL hs (λh' kp=>zen I _ _ hs rs rv gW λb o e _ hL=>kp b o hL e) q
end
section
variable {X:Cx}
theorem RB (m:X.calm=Z7):CallR X (.builtin "any") (λj H Q=>∃(p:Addr) (bs:List Bool),j=[.ref p]/\SqL X.K H p (bs.map V.bl)/\Q (.bl (bs.any id)) H):=by
 rintro l s D H j E Q I r ⟨p,bs,rfl,n,q⟩
 obtain⟨u,rfl,rfl⟩:=vals1 r;obtain⟨c,rv,pl,F⟩:=I.list n;refine call_any_walk (k8 pl.isList ?_);have ne:p≠s.heap.objs.size:=by obtain⟨o,ho,_⟩:=pl.isList;exact br (bh ho)
 have a:=by have:=rv.length;rw[af]at this;exact this
 refine⟨s.heap.objs.size,_,_,_,_,_,λi=>bs.getD i Z6,rfl,Walks.list (A:=X.A.in1) (I.ok.hd m) s.heap.objs.size p ne c.toArray,⟨⟨_,a7 _ rfl,rfl,rfl⟩,pl.isList.at λo e=>ac _ e⟩,?_,?_⟩
 .intro i v t w G x y;have d:c[i]?=Z9 v:=by simpa using x
  have hb:i<bs.length:=a▸(bc.mp d).1;obtain⟨J,hu,B⟩:=rv.get (by rw[bt,ba hb];rfl);rw[d]at hu;cases hu;cases B;refine i0 ?_;have e:bs.getD i Z6=bs[i]:=by simp[az,hb]
  have f:w (bs.getD i Z6) t:=y;rw[e]at f;exact f
 .intro L M k;refine⟨.bl (bs.any id),H,I.kept λb o e=>?_,?_,q⟩
  .refine k b o (λz=>?_) (ac _ e);have C:b=s.heap.objs.size:=by simpa using z
   exact absurd (bh e) (C▸cg _)
  .have e:(cr c.toArray.size).any (fun i=>bs.getD i Z6)=bs.any id:=by
    rw[bn,<-a];apply ro.mpr;simp only[List.any_eq_true];constructor
    .rintro⟨i,d,h⟩
     have g:i<bs.length:=by simpa using d
     exact⟨bs[i],gz g,by simpa[az,g]using h⟩
    .rintro⟨b,hb,h⟩
     have⟨i,d,ei⟩:=oz hb;subst ei;exact⟨i,by simpa using d,by simpa[az,d]using h⟩
   rw[e];rfl
theorem RC (f:X.calm=Z7):CallR X (.builtin "any") (rAgg X.K "any"):=by
 refine CallR.imp (RB f) λj H Q h=>?_;obtain⟨B,x,k,l,g,d,rfl,r,e,b,q⟩:=h;obtain⟨a,m,rfl,h,i⟩:=oO r e;simp only[aggD,show("any":String)≠"list" by decide,show("any":String)≠"tuple" by decide,show("any":String)≠"sorted" by decide,show("any":String)≠"sum" by decide,show("any":String)≠"all" by decide,if_true,if_false]at b;cases l with
 |false=>cases b
 |true=>
  cases c:allB g with
  |none=>rw[c]at b;cases b
  |some bs=>rw[c]at b;cases b;have ev:=IX c i;subst ev;exact⟨a,bs,rfl,h,q _ H (Same.refl H) rfl⟩
end
theorem RD (r:KV kvs c){i:Nat}(h:kvs[i]?=Z9 (k,v)):∃u,c[i]?=Z9 (k,u)/\RelV v u:=by
 induction r generalizing i with
 |nil=>simp at h
 |cons a b d=>
  cases i with
  |zero=>cases h;rename_i e _ _;obtain⟨g,f⟩:=e;obtain⟨rfl,a2⟩:=a;exact⟨f,rfl,a2⟩
  |succ i=>exact d h
theorem RE (h:(mL P w).is k u=Z7):RelV (kV k) u:=by
 rcases mK h with⟨i,t,rfl,rfl⟩|⟨x,t,rfl,rfl⟩
 .exact⟨t,rfl⟩
 .exact⟨t,rfl⟩
theorem bC.at {K:Z5}:∀{kvs:List (Key×V)} {es:cR} {i:Nat} {k:Key} {v:V},bC K H B kvs es->kvs[i]?=Z9 (k,v)->∃d,es[i]?=Z9 (kD k,d)/\keyOk k/\Rep K H B v d
 |kvs,[],i,k,v,r,e=>by have:kvs=[]:=r;subst this;simp at e
 |kvs,(kd,d)::es,i,k,v,r,e=>by
  obtain⟨c,f,t,rfl,rfl,ok,a,b⟩:=r;cases i with
  |zero=>cases e;exact⟨d,rfl,ok,a⟩
  |succ i=>rw[List.getElem?_cons_succ]at e ⊢;exact bC.at b e
theorem RF {K:Z5}(ok:keyOk k):Rep K H B (kV k) (kD k):=by
 cases k with
 |inl i=>exact rfl
 |inr x=>exact⟨rfl,ok⟩
section
variable {X:Cx}
theorem RH {K:Z5}{i:Nat}(so:StOk K F H k l)(e:l[i]?=Z9 (Z9 (g,.dict es))):∃d a B,k[i]?=Z9 (Z9 (.ref d))/\H d=Z9 (.dK a)/\F.V d/\bC K H B a es:=by
 obtain⟨v,f,j⟩:=so.sl i g _ e;cases g with
 |fr=>
  obtain⟨p,rfl,ho,h⟩:=j;rcases h with⟨_,_,z,_⟩|⟨a,m,z,c,r⟩
  .cases z
  .cases z;exact⟨p,a,_,f,c,(so.own p i ho).2.1,r⟩
 |od=>obtain⟨p,a,rfl,c,b,r⟩:=j;exact⟨p,a,_,f,c,b.2,r⟩
 |al=>obtain⟨p,a,rfl,c,b,r⟩:=j;exact⟨p,a,_,f,c,b,r⟩
 |nu=>obtain⟨p,a,rfl,c,b,r⟩:=j;exact⟨p,a,_,f,c,b.2.2,r⟩
end
section
variable {X:Cx}{pins:List (Addr×Obj)}{σ:L2.St}{H:Hp}{s:ao}
theorem _root_.L2.Inv.yu (I:Inv X d k H s)(f:FpOk X d H a)(new:z16 X.prog X.w (upd H a u) s.heap a u):Inv X d k (upd H a u) s:=by
 obtain⟨g,l,t,o,p,r⟩:=f
 exact I.step (ch:=[a]) (fun b i=>by
   have e:b=a:=by simpa using i
   subst e;exact⟨o,l,p,r⟩) (λb q _ _ _ e _=>e) (λb q _ _ _ e _=>⟨q.slots,e⟩) (λb q hc _ n=>by rw[aS (λz=>hc (by simp[z]))];exact n) (λb q _ e=>⟨q,e⟩)
  (λb j q=>by rw[aS (dF q g)];exact q) (λb v j q=>by rw[aS (dF q g)];exact q) (λb ps q=>⟨#[],by rw[aS (dF q g),q];simp⟩) (λm h=>h) (λb v e=>by
   by_cases i:b=a
   .subst i;rw[bQ]at e;cases e;exact new
   .rw[aS i]at e;exact(I.hok b v e).stay (λc w _ q=>q) (λc q=>by rw[aS (dF q g)];exact q) λc j q=>by rw[aS (dF q g)];exact q) I.bare
theorem z6w:∀(l:List (Addr×List V)) {H:Hp},Inv X d k H s->(l.map (·.1)).Nodup->(∀q∈l,FpOk X d H q.1)->(∀q∈l,q.2.length<=bj/\∃f,Vals q.2 f/\TupN s.heap q.1 f.toArray)->
  ∃e,Inv X d k e s/\Same H e/\(∀q∈l,e q.1=Z9 (.tup q.2))/\∀a,a∉l.map (·.1)->e a=H a
 | [],H,I,_,_,_=>⟨H,I,Same.refl H,(λq c=>absurd c (by simp)),λ_ _=>rfl⟩
 |(a,g)::l,H,I,nd,hf,i=>by
  rw[bg,bw]at nd;have fa:=hf (a,g) (by simp);obtain⟨e,m,sm,n,j⟩:=z6w l (I.yu (u:=.tup g) fa (i (a,g) (by simp))) nd.2 (λq c=>by obtain⟨o,r⟩:=hf q (by simp[c]);exact⟨by rw[aS ((λq c z=>nd.1 (a6.mpr ⟨q,c,z⟩)) q c)];exact o,r⟩) λq c=>i q (by simp[c]);refine⟨e,m,(Same.upd fa.1).trans sm,λq c=>?_,λb h=>?_⟩
  .rcases aw.mp c with p|c;subst p
   .rw[j a nd.1];exact bQ
   .exact n q c
  .rw[bg,aw,not_or]at h;rw[j b h.2,aS h.1]
theorem _root_.L2.Inv.writeF {D:Addr}(I:Inv X pins σ H s)(g:H D=Z9 (.lst f))(hm:s.heap.Ns X.env.locals m)(a:h.Ns X.env.locals m)
  (kp:∀b u,b≠X.env.locals->b≠D->s.heap.get? b=Z9 u->h.get? b=Z9 u) (new:z16 X.prog X.w (upd H D (.lst i)) h D (.lst i)):Inv X pins σ (upd H D (.lst i)) {s with heap:=h,toks:=t'}:=by
 have nd:∀b v,H b=Z9 v->v≠.lst f->upd H D (.lst i) b=Z9 v:=λb v q r=>by rw[aS (λz=>by subst z;rw[g]at q;cases q;exact r rfl)];exact q
 have ne:∀b,H b=Z8->b≠D:=λb n z=>by subst z;rw[g]at n;cases n
 have o:∀c v,H c=Z9 v->c≠X.env.locals:=λc v p z=>by subst z;rw[I.free]at p;cases p
 refine I.step (ch:=[]) (λ_ z=>nomatch z) (λb q j _ _ e n=>kp b q j (ne b n) e) (λb q j _ _ e n=>⟨q.slots,kp b q j (ne b n) e⟩) (λb q _ e n=>by rw[aS (ne b n)];exact n) (λb q _ e=>?_) (λb f q=>nd b _ q (λz=>nomatch z)) (λb u f q=>nd b _ q (λz=>nomatch z)) (λb ps q=>⟨#[],by rw[nd b _ q (λz=>nomatch z)];simp⟩) (λy k=>?_) (λb u e=>?_) I.bare
 .by_cases hb:b=X.env.locals
  .subst hb;obtain⟨t,_,_,l,_⟩:=a;exact⟨t,l⟩
  .by_cases hd:b=D
   .subst hd;obtain⟨_,_,_,_,x⟩:=new;exact⟨_,x⟩
   .exact⟨q,kp b q hb hd e⟩
 .rw[k.eq_nsMap,<-hm.eq_nsMap];exact a
 .by_cases hb:b=D
  .subst hb;rw[bQ]at e;cases e;exact new
  .rw[aS hb]at e;refine(I.hok b u e).stay (λc v d q=>?_) (λc q=>nd c _ q (λz=>nomatch z)) λc f q=>nd c _ q (λz=>nomatch z);rcases d with rfl|d
   .exact kp _ v (o _ _ e) hb q
   .exact kp c v (o _ _ d) (λz=>by subst z;rw[g]at d;cases d) q
def RI (i:Nat):TE:=λσ H Q=>∃d kvs,σ[i]?=Z9 (Z9 (.ref d))/\H d=Z9 (.dK kvs)/\∀p,H p=Z8->Q (.ref p) (upd H p (.ext λh=>h.IsItemsView p d))
theorem zic (hN:X.N[i]?=Z9 x)(n:Vis X.env.scope x)(e:Y4 x)(f:(x==("__classdict__":Str))=Z6)(b:(t.endLine==u.line)=Z7):
  PE X (.Call (.Attribute (.Name x p) "items" t) [] [] u) (RI i):=by
 rintro pins s σ H Q I ⟨d,z,g,hd,q⟩
 refine wpAny_Call_method rfl rfl b PySem.F.plainAttrs_dict PySem.F.slot_dict_items PySem.F.type_dict_items (aN (pW hN n e f pins s σ H (λv l=>v=.ref d/\l=H) I ⟨_,g,rfl,rfl⟩) λov m A=>?_);obtain⟨y,l,j,r1,B,C⟩:=A;subst B C;cases r1;obtain⟨_,c,D,rel,a⟩:=z6 j.hok hd;refine⟨a.typeIs,a.mapOf.noDict,?_⟩;refine method_meetsIn PySem.F.slot_dict_items PySem.F.entry_dict_items rfl (PySem.evalArgs_none ⟨rfl,a.typeIs,PySem.F.args_dict_items_1 _,_,meets_dict_items (mL X.prog X.w) d c,⟨D,a⟩,?_⟩);refine⟨.ref m.heap.objs.size,_,j.laid (o:=.ext λh=>h.IsItemsView m.heap.objs.size d) (λ_ _ q=>ac _ q) (ar _) ⟨⟨_,a7 _ rfl,rfl,rfl⟩,⟨_,a7 _ rfl⟩,λE G ⟨o,ho,r⟩ k=>⟨o,k o ho,r⟩⟩,rfl,q _ (j.hok.fresh (ar _))⟩
end
section
variable {X:Cx}{pins:List (Addr×Obj)}{σ:L2.St}{H:Hp}{s:ao}
theorem z1a (O:OrdOn p)(I:Inv X pins σ H s)
  (P:H l=Z9 (.lst vs)) (ho:s.heap.get? l=Z9 (listOf g.toArray n)) (rv:Vals vs g) (R:Reps X.K H B vs a) (S:2<=a.length) (iL:a.length<64) (T:∀d∈a,p d)
  (ask:∀v,(∀b o,b≠X.env.locals->b≠l->s.heap.get? b=Z9 o->v.get? b=Z9 o)->wpAny (model X.prog X.w) A.in1 (v5 g.toArray) (λU x=>x={s with heap:=v}/\∀i j C,i<a.length->j<a.length->C (bL (a.getD i .none) (a.getD j .none)) {s with heap:=v}->kas_ask X.prog X.w A.in1 U g i j C {s with heap:=v}) (λ_ _=>False) {s with heap:=v})
  (q:∀x D,Inv X pins σ (upd H l (.lst D)) x->Reps X.K H B D (z1b a)->Q .none x):wpAny (model X.prog X.w) A (call (.builtin "list.sort") [.ref l]) Q E s:=by
 have l1:=R.length;have l2:=rv.length;obtain⟨m,F,_⟩:=id I.loc
 have hb:X.base.get? l=none:=by
  cases e:X.base.get? l with
  |none=>rfl
  |some u=>have:=(I.bs l u e).2;rw[P]at this;cases this
 refine kat_lsort (vs:=g) ⟨F,I.bk,bo I.ok.iS I.ok.above⟩ (nN (λz=>by subst z;rw[I.free]at P;cases P) hb ho) (.head Hg) (by simp) (by omega) (by omega) λe1 v V W=>?_;have t:∀{h:Heap} {o:Obj},Fr X.base X.env.locals h m->News X.base X.env.locals h ((l,o)::rest X.base s.heap X.env.locals l)->∀b o,b≠X.env.locals->b≠l->s.heap.get? b=Z9 o->h.get? b=Z9 o:=λk r b o h1 S e=>z7e I.bk k (λq hq=>r q (av _ hq)) b o h1 S e;refine aN (ask v (t V W)) λU x zz=>?_;obtain⟨rfl,G⟩:=zz;have el:g.length=a.length:=by omega
 rw[el];refine DP (lt:=ltk (rank a)) (λi j C x y Y e hC=>?_) (kas_sort a.length) _ (Jf (by omega)) rfl λx e=>?_
 .subst e;refine G i j C y Y ?_;rw[<-DU O T y Y];exact hC _ rfl
 .subst e;refine⟨_,_,V,W,.head Hg,λh c k r=>?_⟩;have J:=(r _ ah).1;have L:=Jp O T (by omega);obtain⟨_,f⟩:=DM a.length (by omega);generalize runT (ltk (rank a)) (kas_sort a.length)=M at L f J ⊢;have N:∀i∈M.toList,i<a.length:=λi y=>by have:=(f.toList.mem_iff).mp y;simpa using this
  have Ru:(M.toList.map λi=>vs.getD i .bK).length=a.length:=by have:=f.toList.length_eq;simpa using this
  refine q _ (M.toList.map λi=>vs.getD i .bK) (I.writeF P F k.ns (t k r) ⟨by rw[io];omega,_,c,DX rv M.toList (λi y=>by rw[l1];exact N i y),J⟩) ?_;rw[<-L];exact DY R M.toList N
end
theorem z4d {a:List Value}(c:s.heap.get? l=Z9 (dw "list" a.toArray n))(q:a.length<2)
  (h:∀g r,(∀b o,b≠l->s.heap.get? b=Z9 o->g.get? b=Z9 o)->g.get? l=Z9 (dw "list" a.toArray r)->Q .none {s with heap:=g}):
  wpAny (model prog w) A (call (.builtin "list.sort") [.ref l]) Q E s:=by
 refine f9 slot_list_sort ⟨_,c,rfl⟩ entry_list_sort ?body (args_list_sort _);rw[list_sort_plain];refine aa (qy c rfl ?_);refine aa (n6 c rfl ?_);obtain⟨i,f⟩:∃i,(s.heap.update l (Obj.mapSeq λ_=>(#[]:Array Value))).get? l=Z9 (dw "list" #[] i):=⟨_,l4 c λ_=>#[]⟩;have k:∀b o,b≠l->s.heap.get? b=Z9 o->(s.heap.update l (Obj.mapSeq λ_=>(#[]:Array Value))).get? b=Z9 o:=λb o hb e=>vB hb e;generalize (s.heap.update l (Obj.mapSeq λ_=>(#[]:Array Value)))=j at f k ⊢;refine aa (tm f rfl ?_);refine aa (pg ?_ (by rw[io];simp;omega));apply aa;refine lu (cq ?_);have d:((j.push (dw "tuple" a.toArray 0)).push (dw "list" #[] 0)).get? l=Z9 (dw "list" #[] i):=ac _ (ac _ f);have m:∀b o,b≠l->s.heap.get? b=Z9 o->((j.push (dw "tuple" a.toArray 0)).push (dw "list" #[] 0)).get? b=Z9 o:=λb o hb e=>ac _ (ac _ (k b o hb e));generalize ((j.push (dw "tuple" a.toArray 0)).push (dw "list" #[] 0))=u at d m ⊢;have p:a.toArray.size<2:=by simpa using q
 rw[xp p,xp p];refine aa (ae ?_);refine aa (ae ?_);refine aa (tm d rfl ?_);have t:(arrOf (SortSt.mk' general' (a.toArray.zip a.toArray) #[] 7 Z8)).map (·.2)=a.toArray:=by show(a.toArray.zip a.toArray).map (·.2)=a.toArray;simp;exact List.map_snd_zip (ar _)
 rw[t];refine aa (n6 d rfl ?_);simp;exact ae ⟨_,rfl,h _ _ (λb o hb e=>vB hb (m b o hb e)) (l4 d λ_=>a.toArray)⟩
theorem JI {K:Z5}:∀{b:List V} {c:List D},b.length=c.length->(∀(i:Nat) v d,b[i]?=Z9 v->c[i]?=Z9 d->Rep K H B v d)->Reps K H B b c
 | [],[],_,_=>rfl
 |v::b,d::c,a,h=>Reps.cons (h 0 v d rfl rfl) (JI (by simpa using a) λi v d e f=>h (i+1) v d (by simpa using e) (by simpa using f))
 | [],_::_,a,_=>by cases a
 |_::_,[],a,_=>by cases a
theorem oT:∀b:List Addr,Vals (b.map V.ref) (b.map ZV)
 | []=>.nil
 |a::b=>.cons rfl (oT b)
section
variable {X:Cx}
def RJ (K:Z5):List V->Hp->VK->Prop:=λxs H Q=>∃p d kvs es B,xs=[.ref p]/\H p=Z9 (.ext λh=>h.IsItemsView p d)/\H d=Z9 (.dK kvs)/\bC K H B kvs es/\bV es=Z7/\lM (es.map ent)=Z7/\es.length<64/\∀w H',Same H H'->Rep K H' (nw H) w (.list (z1b (es.map ent)))->Q w H'
theorem RK (hc:X.calm=Z7):CallR X (.builtin "sorted") (RJ X.K):=by
 rintro w s σ H xs us Q I r ⟨p,d,c,G,B,rfl,hp,hd,rs,yg,hok,iL,q⟩
 obtain⟨u,rfl,rfl⟩:=vals1 r;obtain⟨M,_,_⟩:=I.hok p _ hp;obtain⟨hz,RL,vs,rel,o,fX,ep,ho,RM,S,r3⟩:=z6 I.hok hd;have lk:=rel.length;have le:=rs.length;apply lm wp vw vy (vz _);apply aa;apply ae;refine aa (kdx_collect (I.ok.hd hc) M ⟨o,fX,ho,RM,S,r3⟩ (by omega) λt tk g hk hl hG=>?_);have I1:Inv X w σ H {s with heap:=t,toks:=tk}:=I.kept hk;have lz:g.length=c.length:=by omega
 have J:∀z∈g.zip (c.map λT=>[kV T.1,T.2]),∃j k v,g[j]?=Z9 z.1/\c[j]?=Z9 (k,v)/\z.2=[kV k,v]:=λz RN=>by
  obtain⟨j,hj,ej⟩:=oz RN;have hj':j<g.length/\j<c.length:=by rw[rq]at hj;omega
  refine⟨j,(c[j]'hj'.2).1,(c[j]'hj'.2).2,?_,ba hj'.2,?_⟩
  .rw[<-ej,List.getElem_zip];exact ba hj'.1
  .rw[<-ej];simp
 obtain⟨H1,I2,sm,ht,_⟩:=z6w (g.zip (c.map λT=>[kV T.1,T.2])) I1 (by rw[List.map_fst_zip (by grind)];exact hG.rise.imp λh=>br h)
  (λz hz=>by obtain⟨j,k,v,P,_,_⟩:=J z hz;have U:=hG.above z.1 (bx P);exact I.lF (mq U) (I.hok.fresh (mq U)))
  (λz hz=>by obtain⟨j,k,v,P,L,h3⟩:=J z hz;obtain⟨key,k',x,g1,g2,g3⟩:=hG.pairs j z.1 P;obtain⟨u,g4,ru⟩:=RD rel L;rw[g4]at g1;cases g1;rw[h3];exact⟨by rw[io];simp,[key,_],.cons (RE g2) (.cons ru .nil),0,g3⟩)
 refine aa (lu ?_ (by grind));have hD:=I2.hok.fresh (ar _);have R:Inv X w σ (upd H1 t.objs.size (.lst (g.map V.ref))) {s with heap:=t.push (dw "list" (g.map ZV).toArray 0),toks:=tk}:=I2.laid (λ_ _ q=>ac _ q) (ar _) ⟨by rw[af];omega,_,0,oT g,a7 _ rfl⟩
 have N:Reps X.K (upd H1 t.objs.size (.lst (g.map V.ref))) (λ_=>False) (g.map V.ref) (G.map ent):=by
  refine JI (by grind) λi v dd P L=>?_;rw[bt]at P L;obtain⟨a,U,rfl⟩:=dj.mp P;obtain⟨ev,W,rfl⟩:=dj.mp L;have hi:i<c.length:=lz▸(bc.mp U).1;have Y:c[i]?=Z9 (c[i].1,c[i].2):=by simp[hi]
  obtain⟨dv,h4,ok,rv⟩:=bC.at rs Y;rw[h4]at W;cases W;have JJ:=ht (a,[kV c[i].1,c[i].2]) (by refine dm.mpr ⟨i,?_⟩;rw[jp];exact⟨U,by rw[bt,Y];rfl⟩);refine⟨a,_,rfl,cA.of (by rw[aS (dF JJ hD)];exact JJ),Reps.cons (RF ok) (Reps.cons ?_ rfl)⟩;exact Rep.jU (λb u e f=>by have:=sm b u e;rw[aS (dF this hD)];exact this) dv (a9.mp yg _ (bx h4)) rv
 have vC:H t.objs.size=none:=by
  cases e:H t.objs.size with
  |none=>rfl
  |some u=>have:=sm _ _ e;rw[hD]at this;cases this
 have E:∀F l,Inv X w σ (upd (upd H1 t.objs.size (.lst (g.map V.ref))) t.objs.size (.lst l)) F->Reps X.K (upd H1 t.objs.size (.lst (g.map V.ref))) (λ_=>False) l (z1b (G.map ent))->EP X w σ Q (.ref t.objs.size) F:=λF l O r4=>by
  refine⟨.ref t.objs.size,_,O,rfl,q _ _ (λb u e=>?_) ⟨_,l,rfl,.inl ⟨bQ,vC⟩,?_⟩⟩
  .have hb:=dF e vC;rw[aS hb,aS hb];exact sm b u e
  .exact Reps.keep (fun b u e f=>by
    rcases f with f|f
    .exact f.elim
    .have hb:b≠t.objs.size:=λz=>by subst z;rw[bQ]at e;cases e;exact f
     rw[aS hb];exact e) (λ_ z=>z.elim) _ r4
 have C:(t.push (dw "list" (g.map ZV).toArray 0)).get? t.objs.size=Z9 (dw "list" (g.map ZV).toArray 0):=a7 _ rfl;obtain⟨m,yw,_⟩:=id R.loc;by_cases L:G.length<2
 .refine aa (cq (z4d (s:={s with heap:=t.push (dw "list" (g.map ZV).toArray 0),toks:=tk}) C (by grind) λn n' kp D5=>ae ⟨_,rfl,E _ _ (R.writeF bQ yw (yw.at λo e=>kp _ o (λz=>by have :=I2.lt;rw[z]at this;exact cg _ this) e) (λb u _ hb e=>kp b u hb e) ⟨by rw[af];omega,_,n',oT g,D5⟩) ?_⟩))
  have oU:z1b (G.map ent)=G.map ent:=by
   match G,L with
   | [],_=>rfl
   | [y],_=>rfl
   |_::_::_,L=>simp at L;omega
  rw[oU];exact N
 .have A:2<=(G.map ent).length:=by rw[af];omega
  have D:(G.map ent).length<64:=by rw[af];exact iL
  unfold lM at hok;simp only[eh,a9]at hok;have AF:∀n:Heap,(∀b o,b≠X.env.locals->b≠t.objs.size->(t.push (dw "list" (g.map ZV).toArray 0)).get? b=Z9 o->n.get? b=Z9 o)->∀b o,(t.push (dw "list" (g.map ZV).toArray 0)).get? b=Z9 o->o.cls=.type "tuple"->b≠X.env.locals->n.get? b=Z9 o:=λn kp b o e eO hL=>kp b o hL (λz=>by subst z;rw[C]at e;cases e;exact absurd eO (by simp)) e;rcases hok with(hs|hs)|hs
  .exact aa (cq (z1a oP R bQ C (oT g) N A D hs (λn kp=>z5g Z7 hs N (oT g) A n) λF l O r4=>ae ⟨_,rfl,E F l O r4⟩))
  .exact aa (cq (z1a oQ R bQ C (oT g) N A D hs (λn kp=>z5g Z6 hs N (oT g) A n) λF l O r4=>ae ⟨_,rfl,E F l O r4⟩))
  .split at hs
   case h_2=>cases hs
   rename_i y0 _ _;simp only[ax,a9,g9]at hs;obtain⟨cU,hs⟩:=hs;cases y0 with
   |nil=>cases cU
   |cons y1 yr=>exact aa (cq (z1a (sI _) R bQ C (oT g) N A D hs (λn kp=>zen R _ _ hs N (oT g) A (AF n kp)) λF l O r4=>ae ⟨_,rfl,E F l O r4⟩))
end
section
variable {X:Cx}
theorem zlj {i:Nat}(A:X.calm=Z7)(hm:X.mg f=Z8)(hb:c9 f=Z9 (.builtin "sorted"))(C:Gl X f)(hn:f≠"__name__")(n:Y4 f)
  (hN:X.N[i]?=Z9 x) (D:Vis X.env.scope x) (o:Y4 x) (r:(x==("__classdict__":Str))=Z6) (c:(E.endLine==cp.line)=Z7):
  PE X (.Call (.Name f p) [.Call (.Attribute (.Name x O) "items" E) [] [] cp] [] pos) (tD X.K λy=>match y[i]? with
   |some (Z9 (_,.dict es))=>if bV es&&lM (es.map ent)&&decide (es.length<64)then .ok (.fr,.list (z1b (es.map ent)))else .no
   |_=>.no):=
 PE.imp (xO (RK A) hm hb (gL (zic hN D o r c) mM rfl) rfl C hn n) λP H Q ⟨y,F,z,so,e,q⟩=>by
  dsimp only at e
  split at e
  case h_2=>cases e
  rename_i g es hr;split at e
  case isFalse=>cases e
  rename_i b;cases e;simp at b;obtain⟨⟨G,I⟩,J⟩:=b;obtain⟨d,j,B,s,t,R,L⟩:=RH so hr;refine⟨d,j,s,t,λv m=>⟨v,d,j,es,B,rfl,bQ,by rw[aS (dF t m)];exact t,L.same (Same.upd m) λ_ z=>z,G,I,J,λw M sm u=>q w M ((Same.upd m).trans sm) (u.weak λa ha=>?_)⟩⟩;cases a with
  |none=>exact ha
  |some a=>
   have k:upd H v (.ext λh=>h.IsItemsView v d) a=none:=ha;by_cases l:a=v
   .subst l;exact m
   .rw[aS l]at k;exact k
end
theorem z99 (ho:s.heap.get? t=Z9 o)(j:o.cls=.type "tuple")(hd:o.data=.seq a.toArray n)(c:a.length<=bj)
  (h:∀d,(∀b u,s.heap.get? b=Z9 u->d.get? b=Z9 u)->s.heap.objs.size<=d.objs.size->Q a {s with heap:=d}):wpAny (model prog w) A (collect (.ref t)) Q E s:=by
 have i:(s.heap.push (dw "list" #[] 0)).get? t=Z9 o:=ac _ ho;have f:(s.heap.push (dw "list" #[] 0)).get? s.heap.objs.size=Z9 (dw "list" #[] 0):=a7 _ rfl;have g:((#[]:Array Value)++a.toArray).size<=bj+1:=by exact Nat.le_succ_of_le (by simpa using c)
 apply aa;apply pi;refine dq entry_proto_collect' ?_;apply aa;refine lu (ae ⟨Code.quiet_builtin _ (by decide+kernel),dq entry_list_iadd' ?_⟩);show wpAny (model prog w) _ (o7 (.ref s.heap.objs.size) (.ref t) (.ref s.heap.objs.size)) _ E ⟨s.heap.push (dw "list" #[] 0),s.gens,s.drawn,s.toks,s.os⟩;unfold o7;apply aa;refine mw ⟨o,i,j⟩ ?_;have k:(ZU "tuple"==ZU "tuple")=true:=by rfl
 rw[k,lj];apply aa;refine qy i hd ?_;apply aa;refine qy f rfl ?_;apply aa;refine n6 f rfl ?_ (dr _) g;apply ae;apply aa;refine ut (l4 f (·++a.toArray)) ?_;show wpAny (model prog w) A (pure ((#[]:Array Value)++a.toArray).toList) Q E _;have l:((#[]:Array Value)++a.toArray).toList=a:=by simp
 rw[l];exact ae (h ((s.heap.push (dw "list" #[] 0)).update s.heap.objs.size (Obj.mapSeq (·++a.toArray))) (λb u e=>vB (br (bh e)) (ac _ e)) (by rw[Heap.size_update,pe];exact lc _))
section
variable {X:Cx}
theorem RO (hu:X.A.units+64<cLine):CallR X (.builtin "sorted") (rAgg X.K "sorted"):=by
 intro pins s σ H xs us Q I r h;obtain⟨B,x,dx,l,ys,d,hx,rx,e,e2,q⟩:=h;cases l with
 |true=>exact zek hu I r hx rx e e2 q
 |false=>
  subst hx;obtain⟨a,vs,rfl,mU,rs⟩:=oO rx e;have e3:(if((Z6||imms ys)&&kQ ys&&decide (ys.length<64))=Z7 then Res.ok (Z1 (z1b ys))else .no)=.ok d:=e2;cases hc:(Z6||imms ys)&&kQ ys&&decide (ys.length<64)with
  |false=>rw[hc]at e3;cases e3
  |true=>
   rw[hc]at e3;cases e3;obtain⟨hc,iL⟩:=b6.mp hc;obtain⟨yg,hok⟩:=b6.mp hc;have iL:=xv iL;obtain⟨u,rfl,ru⟩:=vals1 r;cases ru;obtain⟨its,rv,⟨o,n,ho,eO,YF,RP⟩,hz⟩:=I.lC mU;have RA:its.length=ys.length:=by rw[<-rv.length,rs.length]
   have sz:its.length<=bj:=by rw[<-rv.length];exact hz
   apply lm wp vw vy (vz _);apply aa;apply ae;refine aa (z99 ho eO RP sz λh' hk yx=>?_);have I1:Inv X pins σ H {s with heap:=h'}:=I.kept hk;refine aa (lu ?_ sz);have vC:=I1.hok.fresh (ar _);have sN:(h'.push (dw "list" its.toArray 0)).get? h'.objs.size=Z9 (dw "list" its.toArray 0):=a7 _ rfl;have I3:Inv X pins σ (upd H h'.objs.size (.lst vs)) {s with heap:=h'.push (dw "list" its.toArray 0)}:=I1.laid (λ_ _ z=>ac _ z) (ar _) ⟨hz,its,0,rv,sN⟩;have rp:Reps X.K (upd H h'.objs.size (.lst vs)) (λ_=>False) vs ys:=(Reps.bG ys yg rs).same (Same.upd vC) λ_ z=>z
   have fin:∀s' gU,Inv X pins σ (upd (upd H h'.objs.size (.lst vs)) h'.objs.size (.lst gU)) s'->Reps X.K (upd H h'.objs.size (.lst vs)) (λ_=>False) gU (z1b ys)->EP X pins σ Q (.ref h'.objs.size) s':=λs' gU I4 r4=>by
    refine⟨.ref h'.objs.size,_,I4,rfl,q _ _ (λb u z=>?_) ⟨_,gU,rfl,.inl ⟨bQ,.inl vC⟩,?_⟩⟩
    .have hb:=dF z vC;rw[aS hb,aS hb];exact z
    .refine Reps.keep (λb u z f=>?_) (λ_ z=>z.elim) _ r4;rcases f with f|f
     .exact f.elim
     .have hb:b≠h'.objs.size:=λz'=>by subst z';rw[bQ]at z;cases z;exact f
      rw[aS hb];exact z
   obtain⟨m,yw,_⟩:=id I3.loc;have RQ:X.env.locals≠h'.objs.size:=λz=>by have:=I1.lt;rw[z]at this;exact cg _ this
   by_cases h2:ys.length<2
   .have es:z1b ys=ys:=by
     match ys,h2 with
     | [],_=>rfl
     | [y],_=>rfl
     |_::_::_,h2=>simp at h2;omega
    refine aa (cq (z4d sN (by omega) λkE n' kp D5=>ae ⟨_,rfl,fin _ vs (I3.writeF bQ yw (yw.at λo e=>kp _ o RQ e) (λb u _ hb e=>kp b u hb e) ⟨hz,its,n',rv,D5⟩) (by rw[es];exact rp)⟩))
   .have gW:2<=ys.length:=qh h2;have AF:∀kE:Heap,(∀b o,b≠X.env.locals->b≠h'.objs.size->(h'.push (dw "list" its.toArray 0)).get? b=Z9 o->kE.get? b=Z9 o)->∀b o,(h'.push (dw "list" its.toArray 0)).get? b=Z9 o->o.cls=.type "tuple"->b≠X.env.locals->kE.get? b=Z9 o:=λkE kp b o e eO hL=>kp b o hL (λz=>by subst z;rw[sN]at e;cases e;exact absurd eO (by simp)) e;replace hok:=(eh _ _).mp hok;rcases hok with hok|hok
    case inr=>replace hok:=((eh _ _).mp hok).resolve_left λz=>h2 (xv z);obtain⟨p,t,O,hp,hy,fZ⟩:=JH hok;exact aa (cq (z1a O I3 bQ sN rv rp gW iL hp (λkE kp=>ziw I3 hy fZ rp rv gW (AF kE kp) (by show X.A.units+1+1+40<cLine;omega)) λs' gU I4 r4=>ae ⟨_,rfl,fin s' gU I4 r4⟩))
    unfold lM at hok;simp only[eh,a9]at hok;rcases hok with(hs|hs)|hs
    .exact aa (cq (z1a oP I3 bQ sN rv rp gW iL hs (λkE kp=>z5g Z7 hs rp rv gW kE) λs' gU I4 r4=>ae ⟨_,rfl,fin s' gU I4 r4⟩))
    .exact aa (cq (z1a oQ I3 bQ sN rv rp gW iL hs (λkE kp=>z5g Z6 hs rp rv gW kE) λs' gU I4 r4=>ae ⟨_,rfl,fin s' gU I4 r4⟩))
    .split at hs
     case h_2=>cases hs
     rename_i y0 _ _ _;simp only[ax,a9,g9]at hs;obtain⟨cU,hs⟩:=hs;cases y0 with
     |nil=>cases cU
     |cons y1 yr=>exact aa (cq (z1a (sI _) I3 bQ sN rv rp gW iL hs (λkE kp=>zen I3 _ _ hs rp rv gW (AF kE kp)) λs' gU I4 r4=>ae ⟨_,rfl,fin s' gU I4 r4⟩))
end
section
variable {X:Cx}{tg a b c e:Expr}{es:List Expr}{fa fb:Rho->Res GD}{pos:Pos}
theorem zyp (hc:CallR X (.type T) (zbu X.K m))(hm:X.mg x=Z8)(l:c9 x=Z9 (.type T))(n:PA X (e::es) (tDA X.K fs))(c:((e::es).all fun e=>!isStar e)=Z7)(o:Gl X x)(hn:x≠"__name__")(f:Y4 x):
  PE X (.Call (.Name x p) (e::es) [] pos) (tD X.K λg=>fs g>>=λi=>m (i.map (·.2))>>=λd=>.ok (gJ d .al,d)):=by
 refine PE.imp (CC hc hm l n c o hn f) λy H Q r=>?_;obtain⟨g,F,z,so,b,q⟩:=r;obtain⟨i,s,b⟩:=Res.aA b;obtain⟨d,t,b⟩:=Res.aA b;cases b;exact⟨g,F,i,so,s,λA B k rs=>⟨_,_,d,rs.gS so.aM,t,λw u v j=>q w u (k.trans v) (qE j λa h=>h.elim (λz=>(nw.back k z).aM so.aM) λz=>z)⟩⟩
theorem RS:CallR X (.type "int") (zbu X.K (gO "int")):=by
 refine CallR.imp Ox λc H Q h=>?_;obtain⟨B,e,d,r,a,q⟩:=h;simp only[gO,show("int":String)≠"len" by decide,show("int":String)≠"max" by decide,if_true,if_false]at a;split at a
 .rename_i i;cases a;obtain⟨v,rfl,b⟩:=uY r;obtain rfl:v=.int i:=b;exact .inl ⟨i,rfl,q _ H (Same.refl H) rfl⟩
 .rename_i k;cases a;obtain⟨v,rfl,b⟩:=uY r;obtain rfl:v=.bl k:=b;exact .inr ⟨k,rfl,q _ H (Same.refl H) rfl⟩
 .cases a
end
abbrev ZRec (TI TO:Addr)(f0:Value)(f1:Bool):Obj:={cls:=.type "zip",dict:=Z8,data:=.fields #[f0,.bool f1,.bool Z6,.ref TI,.ref TO],slots:=#[]}
def ZF (f0:Value):Prop:=f0=Value.none\/∃T:Nat,f0=n5 T
section
variable {prog:b9}{w:World}{A:dh}{E:Value->ao->Prop}{s:ao}{z TI TO:Addr}{f0:Value}{f1:Bool}
theorem RT (h:Q (s.heap.get? a) s):wpAny (model prog w) A (loadIfAlive a) Q E s:=λ_ _ _=>h
theorem JK (hf:ZF f0)(a:s.heap.get? z=Z9 (ZRec TI TO f0 f1))(d:∀b c e,c.get? z=Z9 (ZRec TI TO f0 e)->bu z s.heap c->Q b {s with heap:=c}):wpAny (model prog w) A (lw (.ref z)) Q E s:=by
 delta lw
 apply aa;refine d8 a rfl rfl ?_;rcases hf with rfl|⟨T,rfl⟩
 .exact ae (d Z7 s.heap f1 a (Heap.SameBut.refl ..))
 .show wpAny _ _ (loadIfAlive ((T:Int).toNat)>>=_) _ _ _;apply aa;refine RT ?_;cases s.heap.get? ((T:Int).toNat)with
  |none=>exact ae (d Z7 s.heap f1 a (Heap.SameBut.refl ..))
  |some o=>
   apply aa;refine d8 a rfl rfl ?_;cases f1 with
   |true=>exact ae (d Z6 s.heap Z7 a (Heap.SameBut.refl ..))
   |false=>apply aa;exact gn a (by simp) λc f g=>ae (d Z6 c Z7 f g)
structure ZApart (z TI TO i1 i2:Addr)(p1 p2:List Addr):Prop where
 TIz:TI≠z
 TOz:TO≠z
 i1z:i1≠z
 i2z:i2≠z
 TITO:TI≠TO
 TIi1:TI≠i1
 TIi2:TI≠i2
 TOi1:TO≠i1
 TOi2:TO≠i2
 i12:i1≠i2
 yy:z∉p1
 JL:TO∉p1
 JM:i2∉p1
 yA:z∉p2
 D6:TO∉p2
 AG:i1∉p2
variable {i1 i2:Addr}{p1 p2:List Addr}{n1 n2 i:Nat}{P1 P2:Nat->Value->Prop}{S1 S2:Nat->Heap->Prop}{a b:Value}
abbrev PairAt (h:Heap)(T:Addr)(a b:Value):Prop:=h.get? T=Z9 {cls:=.type "tuple",data:=.seq #[a,b]}
def Zk (z TO i1 i2:Addr)(h h':Heap):Prop:=∀c o,c≠z->c≠TO->c≠i1->c≠i2->h.get? c=Z9 o->h'.get? c=Z9 o
theorem D7 (d:PairAt s.heap T a b)(h:∀c,c.get? T=Z9 {cls:=.type "tuple",data:=.seq ((#[a,b]:Array Value).setIfInBounds k x)}->bu T s.heap c->Q () {s with heap:=c}):wpAny (model prog w) A (updateSeq T (·.setIfInBounds k x)) Q E s:=wpAny_updateSeq d rfl (h _ (by rw[gj _ d rfl];simp[Obj.mapSeq]) (gg ..))
theorem zi5 {Q:Value->ao->Prop}(D:ZApart z TI TO i1 i2 p1 p2)(k:Draws prog w A i1 p1 n1 P1 S1)(l:Draws prog w A i2 p2 n2 P2 S2)(hf:ZF f0)(M:s.heap.get? z=Z9 (ZRec TI TO f0 f1))(N:PairAt s.heap TI (.ref i1) (.ref i2))(O:PairAt s.heap TO a b)(h1:S1 i s.heap)(h2:S2 i s.heap)(Y:i<n1)(l2:i<n2)
  (Z:∀x y n P F h a' b',P1 i x->P2 i y->ZF F->n.get? z=Z9 (ZRec TI TO F h)->PairAt n TO a' b'->S1 (i+1) n->S2 (i+1) n->PairAt n s.heap.objs.size x y->Zk z TO i1 i2 s.heap n->Q (.ref s.heap.objs.size) {s with heap:=n,toks:=P}):
  wpAny (model prog w) A (Builtin.«zip.__next__» {pos:=[.ref z],kw:=[]}) (λR s'=>∃v,R=.done (.ret v)/\Q v s') E s:=by
 show wpAny (model prog w) A (field (.ref z) 2>>=_) _ E s;apply aa;refine d8 M rfl rfl ?_;apply aa;refine d8 M rfl rfl ?_;apply aa;refine fz N rfl ?_;apply aa;refine JK hf M λbf G h f j=>?_;have H:=λc o hc e=>j.extBut c o hc e;have e1:=k.frame _ _ _ h1 λb hb o e=>H b o (λq=>D.yy (q▸hb)) e;have e2:=l.frame _ _ _ h2 λb hb o e=>H b o (λq=>D.yA (q▸hb)) e;have t0:=H _ _ D.TOz O;have I:=j.1;cases bf with
 |true=>
  apply aa;refine jk ?_;apply aa;refine d8 f rfl rfl ?_;apply aa;refine gn f (by simp) λha S ka=>?_;replace S:ha.get? z=Z9 (ZRec TI TO .ellipsis h):=S;apply aa;apply aa;apply aa;apply n7;apply aa;refine k.item i _ _ _ Y (k.frame _ _ _ e1 λb hb o e=>ka.extBut b o (λq=>D.yy (q▸hb)) e) λx hb P p r g=>ae ?_;replace g:bu i1 ha hb:=g;have tb:=g.extBut _ _ D.TOi1 (ka.extBut _ _ D.TOz t0);apply aa;refine fz tb rfl ?_;apply aa;refine D7 tb λhc tc kc=>?_;replace tc:PairAt hc TO x b:=tc;replace kc:bu TO hb hc:=kc;apply aa;refine wq (ae ?_);apply aa;apply aa;apply n7;apply aa;refine l.item i _ _ _ l2 (l.frame _ _ _ (l.frame _ _ _ (l.frame _ _ _ e2 λb hb o e=>ka.extBut b o (λq=>D.yA (q▸hb)) e) λb d o e=>g.extBut b o (λq=>D.AG (q▸d)) e) λb d o e=>kc.extBut b o (λq=>D.D6 (q▸d)) e) λy hd t u B kd=>ae ?_;replace kd:bu i2 hc hd:=kd;have td:=kd.extBut _ _ D.TOi2 tc;apply aa;refine fz td rfl ?_;apply aa;refine D7 td λm L C=>?_;replace L:PairAt m TO x y:=L;replace C:bu TO hd m:=C;apply aa;refine wq (ae (ae ?_));apply aa;refine fz L rfl ?_;apply aa;refine pg ?_;have sz:m.objs.size=s.heap.objs.size:=by rw[C.1,kd.1,kc.1,g.1,ka.1,I]
  have ze:=C.extBut _ _ D.TOz.symm (kd.extBut _ _ D.i2z.symm (kc.extBut _ _ D.TOz.symm (g.extBut _ _ D.i1z.symm S)));have J:=bh ze;apply aa
  delta Builtin.SmallTypes.ownedTupleHandOut
  have zf:(m.push {cls:=.type "tuple",data:=.seq #[x,y]}).get? z=Z9 (ZRec TI TO .ellipsis h):=ac _ ze;apply aa;refine gn zf (by simp) λhg T kg=>?_;replace T:hg.get? z=Z9 (ZRec TI TO (n5 m.objs.size) h):=T;refine gn T (by simp) λhh U kh=>?_;replace U:hh.get? z=Z9 (ZRec TI TO (n5 m.objs.size) Z6):=U;have up:∀c o,c≠z->m.get? c=Z9 o->hh.get? c=Z9 o:=λc o hc e=>kh.extBut _ _ hc (kg.extBut _ _ hc (ac _ e));have new:=kh.extBut _ _ (lg J) (kg.extBut _ _ (lg J) (a7 _ rfl));refine ae ⟨.ref m.objs.size,rfl,?_⟩;rw[sz]at new ⊢;exact Z x y hh t _ _ x y p u (.inr ⟨_,rfl⟩) U (up _ _ D.TOz L) (k.frame _ _ _ (k.frame _ _ _ (k.frame _ _ _ (k.frame _ _ _ r λb d o e=>kc.extBut b o (λq=>D.JL (q▸d)) e) λb d o e=>kd.extBut b o (λq=>D.JM (q▸d)) e) λb d o e=>C.extBut b o (λq=>D.JL (q▸d)) e) λb d o e=>up b o (λq=>D.yy (q▸d)) e) (l.frame _ _ _ (l.frame _ _ _ B λb d o e=>C.extBut b o (λq=>D.D6 (q▸d)) e) λb d o e=>up b o (λq=>D.yA (q▸d)) e) new λc o K V W X e=>up c o K (C.extBut _ _ V (kd.extBut _ _ X (kc.extBut _ _ V (g.extBut _ _ W (ka.extBut _ _ K (H c o K e))))))
 |false=>
  apply aa;apply aa;apply aa;apply cq;apply aa;refine k.item i _ _ _ Y e1 λx hb P p r g=>ae (ae ?_);replace g:bu i1 G hb:=g;apply aa;apply aa;apply cq;apply aa;refine l.item i _ _ _ l2 (l.frame _ _ _ e2 λb d o e=>g.extBut b o (λq=>D.AG (q▸d)) e) λy hd t u B kd=>ae (ae (ae ?_));replace kd:bu i2 hb hd:=kd;have sz:hd.objs.size=s.heap.objs.size:=by rw[kd.1,g.1,I]
  apply aa;refine pg (ae ⟨_,rfl,?_⟩) (by show 2<=bj;decide);have up:∀c o,hd.get? c=Z9 o->(hd.push {cls:=.type "tuple",data:=.seq #[x,y]}).get? c=Z9 o:=λc o e=>ac _ e;have new:PairAt (hd.push {cls:=.type "tuple",data:=.seq #[x,y]}) hd.objs.size x y:=a7 _ rfl;rw[sz]at new ⊢;exact Z x y _ t f0 h a b p u hf (up _ _ (kd.extBut _ _ D.i2z.symm (g.extBut _ _ D.i1z.symm f))) (up _ _ (kd.extBut _ _ D.TOi2 (g.extBut _ _ D.TOi1 t0))) (k.frame _ _ _ (k.frame _ _ _ r λb d o e=>kd.extBut b o (λq=>D.JM (q▸d)) e) λb d o e=>up b o e) (l.frame _ _ _ B λb d o e=>up b o e) new λc o K V W X e=>up c o (kd.extBut _ _ X (g.extBut _ _ W (H c o K e)))
theorem zl8 (D:ZApart z TI TO i1 i2 p1 p2)(B:Draws prog w A i1 p1 n1 P1 S1)(m:Draws prog w A i2 p2 n2 P2 S2)(hf:ZF f0)(N:s.heap.get? z=Z9 (ZRec TI TO f0 f1))(O:PairAt s.heap TI (.ref i1) (.ref i2))(P:PairAt s.heap TO a b)(h1:S1 i s.heap)(h2:S2 i s.heap)(hl:i=min n1 n2)
  (J:∀R C e,Zk z TO i1 i2 s.heap R->(∃o,R.get? e=Z9 o/\o.cls=.type "StopIteration")->E (.ref e) {s with heap:=R,toks:=C}):
  wpAny (model prog w) A (Builtin.«zip.__next__» {pos:=[.ref z],kw:=[]}) Q E s:=by
 show wpAny (model prog w) A (field (.ref z) 2>>=_) _ E s;apply aa;refine d8 N rfl rfl ?_;apply aa;refine d8 N rfl rfl ?_;apply aa;refine fz O rfl ?_;apply aa;refine JK hf N λbf l S f n=>?_;have p:=λc o K e=>n.extBut c o K e;have T:=B.frame _ _ _ h1 λb hb o e=>p b o (λq=>D.yy (q▸hb)) e;have e2:=m.frame _ _ _ h2 λb hb o e=>p b o (λq=>D.yA (q▸hb)) e;cases bf with
 |true=>
  apply aa;refine jk ?_;apply aa;refine d8 f rfl rfl ?_;apply aa;refine gn f (by simp) λha L ka=>?_;replace L:ha.get? z=Z9 (ZRec TI TO .ellipsis S):=L;have F:=B.frame _ _ _ T λb hb o e=>ka.extBut b o (λq=>D.yy (q▸hb)) e;apply aa;apply aa;apply aa;apply n7;apply aa;by_cases U:i<n1
  .refine B.item i _ _ _ U F λx hb C V W g=>ae ?_;replace g:bu i1 ha hb:=g;have tb:=g.extBut _ _ D.TOi1 (ka.extBut _ _ D.TOz (p _ _ D.TOz P));have r:=m.frame _ _ _ (m.frame _ _ _ e2 λb hb o e=>ka.extBut b o (λq=>D.yA (q▸hb)) e) λb h o e=>g.extBut b o (λq=>D.AG (q▸h)) e;apply aa;refine fz tb rfl ?_;apply aa;refine D7 tb λK tc kc=>?_;replace kc:bu TO hb K:=kc;apply aa;refine wq (ae ?_);have X:S2 n2 K:=by rw[show n2=i by omega];exact m.frame _ _ _ r λb h o e=>kc.extBut b o (λq=>D.D6 (q▸h)) e
   apply aa;apply aa;apply n7;apply aa;refine m.done _ _ _ X λhd e kd t=>?_;obtain⟨Y,d,j⟩:=t;have G:=kd _ _ D.i2z.symm (kc.extBut _ _ D.TOz.symm (g.extBut _ _ D.i1z.symm L));refine gn G (by simp) λu _ H=>J u C e (λc o k M v I q=>?_) ⟨Y,H.extBut _ _ (λq=>by subst q;rw[G]at d;cases d;simp at j) d,j⟩;exact H.extBut _ _ k (kd _ _ I (kc.extBut _ _ M (g.extBut _ _ v (ka.extBut _ _ k (p c o k q)))))
  .have y:S1 n1 ha:=show n1=i by omega▸F
   refine B.done _ _ _ y λhd e kd t=>?_;obtain⟨Y,d,j⟩:=t;have G:=kd _ _ D.i1z.symm L;refine gn G (by simp) λu _ H=>J u s.toks e (λc o k M v I q=>?_) ⟨Y,H.extBut _ _ (λq=>by subst q;rw[G]at d;cases d;simp at j) d,j⟩;exact H.extBut _ _ k (kd _ _ v (ka.extBut _ _ k (p c o k q)))
 |false=>
  apply aa;apply aa;apply aa;apply cq;apply aa;by_cases U:i<n1
  .refine B.item i _ _ _ U T λx hb C V W g=>ae (ae ?_);replace g:bu i1 l hb:=g;have r:S2 n2 hb:=by rw[show n2=i by omega];exact m.frame _ _ _ e2 λb h o e=>g.extBut b o (λq=>D.AG (q▸h)) e
   apply aa;apply aa;apply cq;apply aa;exact m.done _ _ _ r λhd e kd t=>J hd C e (λc o k M v I q=>kd _ _ I (g.extBut _ _ v (p c o k q))) t
  .have y:S1 n1 l:=show n1=i by omega▸T
   exact B.done _ _ _ y λhd e kd t=>J hd s.toks e (λc o k M v I q=>kd _ _ v (p c o k q)) t
end
section
variable {prog:b9}{w:World}{A:dh}{E:Value->ao->Prop}{s:ao}
theorem zb9 (a:s.heap.IsTupleIter it t i)(m:s.heap.IsTuple t items)(o:items[i]?=Z9 x)
  (p:∀e,e.IsTupleIter it t (i+1)->bu it s.heap e->Q x {s with heap:=e}):wpAny (model prog w) A (py (.ref it)) Q E s:=by
 have ty:=a.typeIs;obtain⟨⟨k,f,g,b⟩,c,hc,hd⟩:=a;obtain⟨⟨l,h,j,d⟩,to,tc,n,q⟩:=m;cases hc;cases hd;cases tc;cases q;apply aa;refine i6 ty F.slot_tuple_iterator_next (f9 F.slot_tuple_iterator_next ty F.entry_tuple_iterator_next ?_ (F.args_tuple_iterator_next_1 _));show wpAny _ _ (field (.ref it) 0>>=_) _ _ _;apply aa;refine d8 c rfl rfl ?_;apply aa;refine d8 c rfl rfl ?_;apply aa;refine fz to rfl ?_
 dsimp only
 rw[ik i,o];apply aa;refine m7 c rfl (by simp) (ae ⟨x,rfl,ae (p _ ⟨_,gj _ c rfl,rfl,?_⟩ (gg _ _ _))⟩);rfl
theorem z5z (hh:A.handled=Z8)(a:s.heap.IsTupleIter it t i)(q:s.heap.IsTuple t items)(r:items[i]?=Z8)
  (u:∀f e,Heap.ExtBut it s.heap f->(∃o,f.get? e=Z9 o/\o.cls=.type "StopIteration")->E (.ref e) {s with heap:=f}):wpAny (model prog w) A (py (.ref it)) Q E s:=by
 have ty:=a.typeIs;obtain⟨⟨m,g,h,c⟩,j,hc,hd⟩:=a;obtain⟨⟨p,k,l,d⟩,to,tc,n,v⟩:=q;cases hc;cases hd;cases tc;cases v;apply aa;refine i6 ty F.slot_tuple_iterator_next (f9 F.slot_tuple_iterator_next ty F.entry_tuple_iterator_next ?_ (F.args_tuple_iterator_next_1 _));show wpAny _ _ (field (.ref it) 0>>=_) _ _ _;apply aa;refine d8 j rfl rfl ?_;apply aa;refine d8 j rfl rfl ?_;apply aa;refine fz to rfl ?_
 dsimp only
 rw[ik i,r];apply aa;refine jk ?_;apply aa;refine m7 j rfl (by simp) ?_
 delta Builtin.SmallTypes.stopIteration
 repeat (any_goals (first|assumption|wp_step))
 refine wpAny_raiseNew_none hh (u _ _ (λb o x e=>?_) ⟨_,a7 _ rfl,rfl⟩);refine ac _ (ac _ ?_);rw[t9 _ _ _ _ x];exact e
theorem RU (hh:A.handled=Z8)(it t:Addr)(c:t≠it)(items:Array Value):Draws prog w A it [it,t] items.size (λi v=>items[i]?=Z9 v) (λi h=>h.IsTupleIter it t i/\h.IsTuple t items) where
 live:=λi h st=>let⟨⟨o,d,_⟩,_⟩:=st;⟨o,d⟩
 frame:=λi h f st k=>by obtain⟨⟨o,d,r⟩,b,a,e⟩:=st;exact⟨⟨o,k it (by simp) o d,r⟩,b,k t (by simp) b a,e⟩
 item:=λi l q u g st m=>by refine zb9 st.1 st.2 (e8 g) λf n j=>?_;obtain⟨b,a,e⟩:=st.2;exact m _ f l.toks (e8 g) ⟨n,b,j.extBut t b c a,e⟩ j
 done:=λs Q E st p=>z5z hh st.1 st.2 (qz (ar _)) p
end
def IsB (h:Heap)(l:Bool)(a:Addr)(xs:Array Value):Prop:=match l with
 |true=>h.IsList a xs
 |false=>h.IsTuple a xs
def kT (h:Heap)(l:Bool)(it a:Addr)(i:Nat):Prop:=match l with
 |true=>h.IsListIter it a i
 |false=>h.IsTupleIter it a i
def kF (K:Z5)(H:Hp)(l:Bool)(a:Addr)(vs:List V):Prop:=match l with
 |true=>SqL K H a vs
 |false=>cA K H a vs
def qM (K:Z5)(H:Hp)(B:Ad->Prop)(l:Bool)(a:Addr)(vs:List V):Prop:=match l with
 |true=>(H a=Z9 (.lst vs)/\B (Z9 a))\/(FL K H a vs/\B Z8)
 |false=>cA K H a vs
abbrev gX (l:Bool)(a:Addr):Obj:={cls:=.type (if l then "list_iterator"else "tuple_iterator"),data:=.fields #[.ref a,.int 0 0]}
theorem qM.keep {K:Z5}(h:qM K H B l a c)(k:Kp B H d):kF K d l a c:=by
 cases l with
 |true=>
  rcases h with⟨h,b⟩|⟨⟨o,h⟩|h,_⟩
  .exact .inl (.inl (k a _ h (.inl b)))
  .exact .inl (.inr ⟨o,k a _ h (.inr True.intro)⟩)
  .exact .inr h
 |false=>exact cA.keep k h
theorem qM.of {K:Z5}(r:Rep K H B v d)(e:seqR d=.ok xs):∃l a vs,v=.ref a/\qM K H B l a vs/\Reps K H B vs xs/\xs.length<=aU:=by
 cases d<;>try (exact(dS e).elim)
 case list ds=>
  have e:(if decide (ds.length<=aU)=Z7 then Res.ok ds else Res.no)=Res.ok xs:=e;split at e
  .rename_i hc;cases e;obtain⟨a,vs,rfl,h,rs⟩:=r;exact⟨Z7,a,vs,rfl,h,rs,xv hc⟩
  .cases e
 case tuple ds=>
  have e:(if decide (ds.length<=aU)=Z7 then Res.ok ds else Res.no)=Res.ok xs:=e;split at e
  .rename_i hc;cases e;obtain⟨a,vs,rfl,h,rs⟩:=r;exact⟨Z6,a,vs,rfl,h,rs,xv hc⟩
  .cases e
section
variable {X:Cx}{pins:List (Addr×Obj)}{σ:L2.St}{H:Hp}{s:ao}
theorem kF.items (I:Inv X d f H s)(h:kF X.K H l a e):∃b,Vals e b/\IsB s.heap l a b.toArray/\e.length=b.length:=by
 cases l with
 |true=>obtain⟨b,c,p,_⟩:=I.list h;exact⟨b,c,p.isList,c.length⟩
 |false=>obtain⟨b,c,p,_⟩:=I.tuple h;exact⟨b,c,p,c.length⟩
end
theorem AH (hh:A.handled=Z8)(l:Bool)(it a:Addr)(b:a≠it)(items:Array Value):Draws prog w A it [it,a] items.size (λi v=>items[i]?=Z9 v) (λi h=>kT h l it a i/\IsB h l a items):=by
 cases l with
 |true=>exact Draws.list hh it a b items
 |false=>exact RU hh it a b items
theorem kT.live (x:kT h l it a i):∃o,h.get? it=Z9 o/\∀v,o.data≠.cell v:=by cases l<;>(obtain⟨o,b,_,hd⟩:=x;exact⟨o,b,λv z=>by rw[hd]at z;cases z⟩)
theorem kT.keep (x:kT h l it a i)(k:∀o,h.get? it=Z9 o->b.get? it=Z9 o):kT b l it a i:=by cases l<;>(obtain⟨o,c,r⟩:=x;exact⟨o,k o c,r⟩)
theorem kT.new (x:h.get? b=Z9 (gX l a)):kT h l b a 0:=by cases l<;>exact⟨_,x,rfl,rfl⟩
theorem IsB.lt (x:IsB h l a c):a<h.objs.size:=by cases l<;>(obtain⟨o,b,_⟩:=x;exact bh b)
theorem IsB.push (x:IsB h l a b)(o:Obj):IsB (h.push o) l a b:=by cases l<;>(obtain⟨q,c,r⟩:=x;exact⟨q,ac _ c,r⟩)
theorem JN (h:IsB s.heap l a c)(b:Q (.ref s.heap.objs.size) {s with heap:=s.heap.push (gX l a)}):wpAny (model prog w) A (qp (.ref a)) Q E s:=by
 cases l with
 |true=>exact k8 h b
 |false=>exact l8 h b
section
variable {X:Cx}{pins:List (Addr×Obj)}{σ:L2.St}{H:Hp}{s:ao}
theorem _root_.L2.Inv.turnedTL {h:List Addr}(I:Inv X a l H s)(f:∀b∈h,FpOk X a H b)(keep:∀b q,b∉h->s.heap.get? b=Z9 q->i.get? b=Z9 q)(j:s.heap.objs.size<=p)
  (new:z16 X.prog X.w (upd H p (.tup xs)) i p (.tup xs)):Inv X a l (upd H p (.tup xs)) {s with heap:=i,toks:=t'}:=by
 have hn:=I.hok.fresh j;have d:∀b u,H b=Z9 u->b∉h:=λb u k z=>by rw[(f b z).1]at k;cases k
 refine I.step (λb g=>?_) (λb q _ _ hc e _=>keep b q hc e) (λb q _ _ hc e _=>⟨q.slots,keep b q hc e⟩) (λb q _ e n=>by rw[aS (br (b8 (bh e) j))];exact n) (λb q hc e=>⟨q,keep b q hc e⟩) (λb xs q=>by rw[aS (dF q hn)];exact q) (λb u xs q=>by rw[aS (dF q hn)];exact q) (λb ps q=>⟨#[],by rw[aS (dF q hn),q];simp⟩) (λm hm=>?_) (λb u e=>?_) I.bare
 .obtain⟨y,o,A,r,t,x⟩:=f b g;exact⟨r,o,t,x⟩
 .exact hm.at λq e=>keep _ q (λz=>(f _ z).2.1 rfl) e
 .by_cases g:b=p
  .subst g;rw[bQ]at e;cases e;exact new
  .rw[aS g]at e;refine(I.hok b u e).stay (λc v hc q=>keep c v ?_ q) (λc q=>by rw[aS (dF q hn)];exact q) λc xs q=>by rw[aS (dF q hn)];exact q
   rcases hc with rfl|hc
   .exact d _ _ e
   .exact d _ _ hc
theorem _root_.L2.Inv.oV {g:List Addr}(I:Inv X a j H s)(f:∀b∈g,FpOk X a H b)(keep:∀b q,b∉g->s.heap.get? b=Z9 q->k.get? b=Z9 q):Inv X a j H {s with heap:=k,toks:=t'}:=by
 have d:∀b u,H b=Z9 u->b∉g:=λb u h z=>by rw[(f b z).1]at h;cases h
 refine I.step (λb l=>?_) (λb q _ _ hc e _=>keep b q hc e) (λb q _ _ hc e _=>⟨q.slots,keep b q hc e⟩) (λb q _ e n=>n) (λb q hc e=>⟨q,keep b q hc e⟩) (λb i q=>q) (λb u i q=>q) (λb ps q=>⟨#[],by rw[q];simp⟩) (λm hm=>?_) (λb u e=>?_) I.bare
 .obtain⟨w,o,x,p,r,t⟩:=f b l;exact⟨p,o,r,t⟩
 .exact hm.at λq e=>keep _ q (λz=>(f _ z).2.1 rfl) e
 .refine(I.hok b u e).stay (λc v hc q=>keep c v ?_ q) (λc q=>q) λc i q=>q;rcases hc with rfl|hc
  .exact d _ _ e
  .exact d _ _ hc
end
theorem JO (f:Vals b a)(d:i<b.length)(g:a.toArray[i]?=Z9 x):∃v,b[i]?=Z9 v/\RelV v x:=by
 refine⟨b[i],ba d,?_⟩;obtain⟨u,e,h⟩:=f.get (ba d);have c:a[i]?=Z9 x:=by simpa using g
 rw[c]at e;cases e;exact h
def JP (K:Z5)(l1:Bool)(a1:Addr)(vs:List V)(l2:Bool)(a2:Addr)(ws:List V):It:=⟨λi H=>kF K H l1 a1 vs/\kF K H l2 a2 ws/\i<min vs.length ws.length,λi H x H'=>∃p v w,vs[i]?=Z9 v/\ws[i]?=Z9 w/\H p=Z8/\x=.ref p/\H'=upd H p (.tup [v,w]),λi H=>kF K H l1 a1 vs/\kF K H l2 a2 ws/\i=min vs.length ws.length⟩
def JQ (z TI TO i1 i2:Addr)(l1:Bool)(a1:Addr)(l2:Bool)(a2:Addr)(i:Nat)(h:Heap):Prop:=(∃f0 f1,ZF f0/\h.get? z=Z9 (ZRec TI TO f0 f1))/\PairAt h TI (.ref i1) (.ref i2)/\(∃a b,PairAt h TO a b)/\kT h l1 i1 a1 i/\kT h l2 i2 a2 i
theorem zqx {TI TO:Addr}(ht:(isTup e||isNm e)=Z7)(hf:ZF a)(d:s.heap.get? z=Z9 (ZRec TI TO a i))
  (f:∀b c,ZF c->b.get? z=Z9 (ZRec TI TO c i)->bu z s.heap b->Q () {s with heap:=b}):wpAny (model prog w) A (kq e (.ref z) (.ref T)) Q E s:=by
 cases e<;>first|(cases ht;done)|exact ae (f s.heap a hf d (Heap.SameBut.refl ..))|skip
 delta kq
 apply aa;refine ut d ?_;show wpAny _ _ (if(_&&(a::_:List Value).toArray[0]?==Z9 (n5 T))=Z7 then _ else _) Q E s;by_cases h:(Z9 a==Z9 (n5 T))=Z7
 .rw[xp (by simpa using h)];apply aa;exact jk (gn d (by simp) λb g j=>f b .none (.inl rfl) g j)
 .rw[xq (by simpa using h)];exact ae (f s.heap a hf d (Heap.SameBut.refl ..))
theorem zih {TI TO:Addr}(D:ZApart z TI TO i1 f p q)(r:Draws prog w A.in1 i1 p t u m)(v:Draws prog w A.in1 f q B P2 n)(hf:ZF f0)(o:s.heap.get? z=Z9 (ZRec TI TO f0 T))(g:PairAt s.heap TI (.ref i1) (.ref f))(h:PairAt s.heap TO a b)(C:m i s.heap)(G:n i s.heap)(H:i<t)(l2:i<B)
  (I:∀x y c j d e k l,u i x->P2 i y->ZF d->c.get? z=Z9 (ZRec TI TO d e)->PairAt c TO k l->m (i+1) c->n (i+1) c->PairAt c s.heap.objs.size x y->Zk z TO i1 f s.heap c->Q (Z9 (.ref s.heap.objs.size)) {s with heap:=c,toks:=j}):wpAny (model prog w) A (we (.ref z)) Q E s:=by
 have ty:s.TypeIs (.ref z) "zip":=⟨_,o,rfl⟩
 delta we
 apply aa;apply wpAny_attempt;refine i6 ty F.slot_zip_next (f9 F.slot_zip_next ty F.entry_zip_next ?_ (F.args_zip_next_1 _));exact zi5 D r v hf o g h C G H l2 λx y c j d e k l J K L M N O P R S=>ae (I x y c j d e k l J K L M N O P R S)
theorem zhs {TI TO:Addr}(D:ZApart z TI TO i1 c k l)(m:Draws prog w A.in1 i1 k n P1 p)(q:Draws prog w A.in1 c l r P2 t)(hf:ZF u)(h:s.heap.get? z=Z9 (ZRec TI TO u f1))(d:PairAt s.heap TI (.ref i1) (.ref c))(f:PairAt s.heap TO a b)(v:p i s.heap)(x:t i s.heap)(hl:i=min n r)
  (y:∀g j,Zk z TO i1 c s.heap g->Q Z8 {s with heap:=g,toks:=j}):wpAny (model prog w) A (we (.ref z)) Q E s:=by
 have ty:s.TypeIs (.ref z) "zip":=⟨_,h,rfl⟩
 delta we
 apply aa;apply wpAny_attempt;refine i6 ty F.slot_zip_next (f9 F.slot_zip_next ty F.entry_zip_next ?_ (F.args_zip_next_1 _));refine zl8 D m q hf h d f v x hl λg j e kp B=>?_;obtain⟨o,ho,hc⟩:=B;apply aa;exact ql ⟨o,ho,hc⟩ isSubtype_stop (ae (y _ _ kp))
theorem zhy {K:Z5}{TI TO:Addr}(ht:(isTup tg||isNm tg)=Z7)(D:ZApart z TI TO i1 m [i1,B] [m,a2])(n1:B≠i1)(n2:a2≠m):
  Turn P w K tg (JP K l1 B vs l2 a2 ws) [z,TI,TO,i1,m] z (JQ z TI TO i1 m l1 B l2 a2) where
 mem:=by simp
 obj:=λi h st b hb=>by
  obtain⟨⟨C,G,_,g⟩,d,⟨a,c,f⟩,n,p⟩:=st;simp at hb;rcases hb with rfl|rfl|rfl|rfl|rfl
  .exact⟨_,g,λv q=>by cases q⟩
  .exact⟨_,d,λv q=>by cases q⟩
  .exact⟨_,f,λv q=>by cases q⟩
  .exact n.live
  .exact p.live
 keep:=λi h h' st k=>by obtain⟨⟨C,G,hf,g⟩,d,⟨a,c,f⟩,n,p⟩:=st;exact⟨⟨C,G,hf,k z (by simp) _ g⟩,k TI (by simp) _ d,⟨a,c,k TO (by simp) _ f⟩,n.keep λo=>k i1 (by simp) o,p.keep λo=>k m (by simp) o⟩
 item:=by
  intro X U V Y J i L s σ H E I hf st Z;subst U V Y;obtain⟨r,t,hi⟩:=Z;obtain⟨⟨C,G,zf,g⟩,d,⟨a,c,f⟩,n,p⟩:=st;obtain⟨j,M,b1,e1⟩:=kF.items I r;obtain⟨l,N,b2,e2⟩:=kF.items I t;have O:X.A.in1.handled=none:=I.ok.hd J;refine zih D (AH (prog:=X.prog) (w:=X.w) O l1 i1 B n1 j.toArray) (AH (prog:=X.prog) (w:=X.w) O l2 m a2 n2 l.toArray) zf g d f ⟨n,b1⟩ ⟨p,b2⟩ (by grind) (by grind) λx y h' tk YG RV a' b' hx hy RX IZ Q sO rO new kp=>⟨_,rfl,?_⟩;refine zqx ht RX IZ λkE R S T sb=>?_;have lt:∀{c o},s.heap.get? c=Z9 o->s.heap.objs.size≠c:=λe q=>cg _ (q▸bh e);obtain⟨o1,RY,_⟩:=n.live;obtain⟨o2,RZ,_⟩:=p.live;have R3:s.heap.objs.size∉ [z,TI,TO,i1,m]:=by simp[lt g,lt d,lt f,lt RY,lt RZ]
  have up:=λc o J e=>sb.extBut c o J e;obtain⟨v,hv,rx⟩:=JO M (by omega) hx;obtain⟨u,hu,ry⟩:=JO N (by omega) hy;have I1:=I.turnedTL (t':=tk) hf (λb q hb e=>up b q (λq=>hb (by simp[q])) (kp b q (λq=>hb (by simp[q])) (λq=>hb (by simp[q])) (λq=>hb (by simp[q])) (λq=>hb (by simp[q])) e)) (ar _) ⟨by rw[io];simp,[x,y],.cons rx (.cons ry .nil),0,(up _ _ (lt g) new)⟩;refine⟨.ref s.heap.objs.size,_,I1,rfl,⟨_,v,u,hv,hu,I.hok.fresh (ar _),rfl,rfl⟩,⟨⟨R,RV,S,T⟩,up _ _ D.TIz (kp _ _ D.TIz D.TITO D.TIi1 D.TIi2 d),⟨a',b',up _ _ D.TOz Q⟩,sO.1.keep λo=>up _ o D.i1z,rO.1.keep λo=>up _ o D.i2z⟩,λb hb=>?_⟩;rw[aS λq:b=s.heap.objs.size=>R3 (q▸hb)];exact(hf b hb).1
 done:=by intro X U V Y J i L s σ H E I hf st Z;subst U V Y;obtain⟨r,t,hi⟩:=Z;obtain⟨⟨C,G,zf,g⟩,d,⟨a,c,f⟩,n,p⟩:=st;obtain⟨j,M,b1,e1⟩:=kF.items I r;obtain⟨l,N,b2,e2⟩:=kF.items I t;have O:X.A.in1.handled=none:=I.ok.hd J;refine zhs D (AH (prog:=X.prog) (w:=X.w) O l1 i1 B n1 j.toArray) (AH (prog:=X.prog) (w:=X.w) O l2 m a2 n2 l.toArray) zf g d f ⟨n,b1⟩ ⟨p,b2⟩ (by grind) λh' tk kp=>⟨rfl,I.oV hf λb q hb e=>?_⟩;exact kp b q (λq=>hb (by simp[q])) (λq=>hb (by simp[q])) (λq=>hb (by simp[q])) (λq=>hb (by simp[q])) e
 self:=λ_ _ _ _ _ st h=>by obtain⟨⟨C,G,_,g⟩,_⟩:=st;have ty:Shared.TypeIs _ (.ref z) "zip":=⟨_,g,rfl⟩;refine wpAny_pyIter_slot ty F.slot_zip_iter (f9 F.slot_zip_iter ty F.entry_zip_iter ?_ (F.args_zip_iter_1 _));exact ae ⟨_,rfl,"zip",_,ty,F.slot_zip_next.lookup,h⟩
theorem JR:∀a b (i:Nat) {x y:D},a[i]?=Z9 x->b[i]?=Z9 y->(zipD a b)[i]?=Z9 (.tuple [x,y])
 |x::a,y::b,0,_,_,c,d=>by cases c;cases d;rfl
 |x::a,y::b,i+1,_,_,c,d=>JR a b i c d
 | [],_,i,_,_,c,_=>by simp at c
 |_::_,[],i,_,_,_,d=>by simp at d
theorem AI:∀a b,(zipD a b).length=min a.length b.length
 | [],_=>by simp[zipD]
 |_::_,[]=>by simp[zipD]
 |x::a,y::b=>by show(zipD a b).length+1=min (a.length+1) (b.length+1);rw[AI a b];omega
theorem R4 {K:Z5}(l:qM K H B w y m)(b:qM K H B l2 a2 ws)(n:Reps K H B m c)(o:Reps K H B ws r)(C:c.length<=bj):Walk K (JP K w y m l2 a2 ws) B H (zipD c r):=by
 have D:=n.length;have E:=o.length;constructor
 .rw[AI];omega
 .intro g kp i h;rw[AI]at h;exact⟨l.keep kp,b.keep kp,by omega⟩
 .intro g kp;exact⟨l.keep kp,b.keep kp,by rw[AI];omega⟩
 .rintro g kp i x F h ⟨p,v,u,A,hu,s,rfl,rfl⟩
  obtain⟨d,hd,rv⟩:=Reps.lR n A;obtain⟨t,j,k⟩:=Reps.lR o hu;have kk:∀a q,H a=Z9 q->(B (Z9 a)\/Fix q)->upd g p (.tup [v,u]) a=Z9 q:=λa q e f=>by have b:=kp a q e f;rw[aS (dF b s)];exact b
  exact⟨Same.upd s,.tuple [d,t],JR c r i hd j,p,[v,u],rfl,cA.of bQ,Reps.cons (Rep.keep kk (λ_ z=>z) d rv) (Reps.cons (Rep.keep kk (λ_ z=>z) t k) rfl)⟩
theorem zfl (l1 l2:Bool)(a1 a2:Addr)(xs ys:Array Value):Meets (Builtin.«zip.__new__» ⟨[.type "zip",.ref a1,.ref a2],[]⟩) fun _ R s=>IsB s.heap l1 a1 xs/\IsB s.heap l2 a2 ys/\
  ∀h1 h2 h3 h4 h5,h1=s.heap.push (gX l1 a1)->h2=h1.push (gX l2 a2)->h3=h2.push {cls:=.type "tuple",data:=.seq #[.ref s.heap.objs.size,.ref h1.objs.size]}->h4=h3.push {cls:=.type "tuple",data:=.seq #[.none,.none]}->h5=h4.push {cls:=.type "zip",data:=.fields #[.none,.bool Z6,.bool Z6,.ref h2.objs.size,.ref h3.objs.size]}->R (.ok (.ret (.ref h4.objs.size))) {s with heap:=h5}:=by
 rintro prog w A R s ⟨b1,b2,hR⟩
 have sub:=sub_zip;obtain⟨hp,gs,dp,tk,os⟩:=s;have c1:=b1;have c2:IsB (Shared.heap ⟨hp.push (gX l1 a1),gs,dp,tk,os⟩) l2 a2 ys:=b2.push _
 wp_walk using JN c1,JN c2
 exact hR _ _ _ _ _ rfl rfl rfl rfl rfl
section
variable {X:Cx}{pins:List (Addr×Obj)}{σ:L2.St}
theorem z9f (ht:(isTup W||isNm W)=Z7)(t:Inv X pins σ g c)(r1:RelV y1 u1)(r2:RelV y2 u2)(L:Rep X.K g B y1 d1)(M:Rep X.K g B y2 d2)(e1:seqR d1=.ok xs)(e2:seqR d2=.ok ys)(q:∀J,Walk X.K J B g (zipD xs ys)->R J g):
  wpAny (model X.prog X.w) X.A (call (.type "zip") [u1,u2]) (λv' s2=>wpAny (model X.prog X.w) X.A (qp v') (wV X pins σ W R) X.xe s2) X.xe c:=by
 obtain⟨G,N,Y,rfl,Z,w1,z1⟩:=qM.of L e1;obtain⟨l2,a2,ws,rfl,q2,w2,z2⟩:=qM.of M e2;cases r1;cases r2;obtain⟨u,_,b1,_⟩:=kF.items t (Z.keep (Kp.of (Same.refl g)));obtain⟨v,_,b2,_⟩:=kF.items t (q2.keep (Kp.of (Same.refl g)));refine callType_new F.called_zip (by decide) (F.typeCall_zip_2 _ _) (F.newCall_zip_2 _ _) (λobj=>F.args_object_init_3 obj _ _) F.entry_zip_new (zfl G l2 N a2 u.toArray v.toArray) ⟨b1,b2,?_⟩;intro m k s n H O Q S U k5;have d:m.objs.size=c.heap.objs.size+1:=O▸pe _ _;have p:k.objs.size=c.heap.objs.size+2:=by rw[Q,pe,d]
 have r:s.objs.size=c.heap.objs.size+3:=by rw[S,pe,p]
 have C:n.objs.size=c.heap.objs.size+4:=by rw[U,pe,r]
 have p2:∀b o,m.get? b=Z9 o->k.get? b=Z9 o:=λb o e=>by rw[Q];exact ac _ e
 have V:∀b o,k.get? b=Z9 o->s.get? b=Z9 o:=λb o e=>by rw[S];exact ac _ e
 have I:∀b o,s.get? b=Z9 o->n.get? b=Z9 o:=λb o e=>by rw[U];exact ac _ e
 have D:∀b o,n.get? b=Z9 o->H.get? b=Z9 o:=λb o e=>by rw[k5];exact ac _ e
 have I5:Inv X pins σ g {c with heap:=H}:=t.kept λb o e=>D b o (I b o (V b o (p2 b o ((λb o e=>by rw[O];exact ac _ e) b o e))));have g5:H.get? n.objs.size=Z9 (ZRec k.objs.size s.objs.size .none Z6):=k5▸a7 _ rfl;have t1:=b1.lt;have t2:=b2.lt;have Da:ZApart n.objs.size k.objs.size s.objs.size c.heap.objs.size m.objs.size [c.heap.objs.size,N] [m.objs.size,a2]:=by have f:∀{i j:Nat},i≠j->c.heap.objs.size+i≠c.heap.objs.size+j:=λh z=>h (Nat.add_left_cancel z);have l:∀{j:Nat},0≠j->c.heap.objs.size≠c.heap.objs.size+j:=λh=>f h;have no:∀{x y z:Addr},x≠y->x≠z->x∉ [y,z]:=λm k h=>(aw.mp h).elim m λq=>k (ay.mp q);have na:∀{a:Addr} {j:Nat},a<c.heap.objs.size->c.heap.objs.size+j≠a:=λh z=>cg _ (b8 h (z▸j6 _ _));rw[d,p,r,C];exact⟨f (by decide),f (by decide),l (by decide),f (by decide),f (by decide),(l (by decide)).symm,f (by decide),(l (by decide)).symm,f (by decide),l (by decide),no (l (by decide)).symm (na t1),no (l (by decide)).symm (na t1),no (l (by decide)).symm (na t1),no (f (by decide)) (na t2),no (f (by decide)) (na t2),no (l (by decide)) (na (j:=0) t2)⟩
 have T:=zhy (P:=X.prog) (w:=X.w) (K:=X.K) (l1:=G) (l2:=l2) (vs:=Y) (ws:=ws) ht Da (br t1) (d▸br (gi t2));have St:JQ n.objs.size k.objs.size s.objs.size c.heap.objs.size m.objs.size G N l2 a2 0 H:=⟨⟨.none,Z6,.inl rfl,g5⟩,D _ _ (I _ _ (S▸a7 _ rfl)),⟨_,_,(D _ _ (U▸a7 _ rfl))⟩,kT.new (D _ _ (I _ _ (V _ _ (p2 _ _ (O▸a7 _ rfl))))),kT.new (D _ _ (I _ _ (V _ _ (Q▸a7 _ rfl))))⟩;refine⟨⟨_,g5,rfl⟩,T.self _ 0 _ _ _ St ⟨n.objs.size,_,_,_,g,rfl,I5,T,St,λb hb=>?_,q _ (R4 Z q2 w1 w2 (jX z1))⟩⟩
 have E:c.heap.objs.size<=b:=by
  rw[d,p,r,C]at hb;simp at hb;rcases hb with rfl|rfl|rfl|rfl|rfl
  .exact j6 _ _
  .exact j6 _ _
  .exact j6 _ _
  .exact ar _
  .exact j6 _ _
 exact t.lF E (t.hok.fresh E)
end
section
variable {X:Cx}{a b:Expr}{fa fb:Rho->Res GD}{p pos:Pos}
theorem JS:c9 "zip"=Z9 (.type "zip"):=by decide+kernel
theorem R5 (hs:isStar a=Z6)(c:PE X a (tD X.K fa)):PA X [a] (tDA X.K λb=>fa b>>=λx=>.ok [x]):=by refine PA.imp (Dl hs c IJ) λg H Q ⟨b,F,z,so,e,q⟩=>⟨b,F,z,so,?_,q⟩;obtain⟨x,d,e⟩:=Res.aA e;show(fa b>>=λx=>Res.ok []>>=λf=>Res.ok (x::f))=_;rw[d];exact e
theorem JT (hs:isStar a=Z6)(d:isStar b=Z6)(f:PE X a (tD X.K fa))(hb:PE X b (tD X.K fb)):PA X [a,b] (tDA X.K λc=>fa c>>=λx=>fb c>>=λy=>.ok [x,y]):=by refine PA.imp (Dl hs f (R5 d hb)) λj H Q ⟨c,F,z,so,e,q⟩=>⟨c,F,z,so,?_,q⟩;obtain⟨x,g,e⟩:=Res.aA e;obtain⟨y,h,e⟩:=Res.aA e;show(fa c>>=λx=>(fb c>>=λy=>Res.ok [y])>>=λi=>Res.ok (x::i))=_;rw[g,h];exact e
theorem JU {K:Z5}(so:StOk K F H j k)(hc:rV x=Z7)(e:seqR x.2=.ok l)(c:Rep K f (BG F H x.1) v x.2):∃B,Rep K f B v x.2/\(∀a,B (Z9 a)->F.O a=Z8)/\∀a,B a->BI F .al a:=by
 obtain⟨g,d⟩:=x;cases d<;>try (exact(dS e).elim)
 case list ds=>
  have b:g≠.al:=λz=>by subst z;cases hc
  exact⟨_,c,λa h=>DA so b h,λa h=>BI.of so.aM (BG.aM so.aM h)⟩
 case tuple ds=>
  rcases gf.mp hc with b|i
  .have b:g≠ .al:=λz=>by subst z;cases b
   exact⟨_,c,λa h=>DA so b h,λa h=>BI.of so.aM (BG.aM so.aM h)⟩
  .exact⟨λ_=>False,Rep.bG _ i c,λ_ h=>h.elim,λ_ h=>h.elim⟩
theorem R6 (h:(fa ρ>>=λx=>fb ρ>>=λy=>Res.ok [x,y])=.ok ys):∃x y,fa ρ=.ok x/\fb ρ=.ok y/\ys=[x,y]:=by obtain⟨x,e,h⟩:=Res.aA h;obtain⟨y,a,h⟩:=Res.aA h;cases h;exact⟨x,y,e,a,rfl⟩
theorem AJ (ht:(isTup tg||isNm tg)=Z7)(hm:X.mg "zip"=Z8)(t:Gl X "zip")(hs:isStar a=Z6)(f:isStar b=Z6)(ha:PE X a (tD X.K fa))(hb:PE X b (tD X.K fb)):PI X tg (.Call (.Name "zip" p) [a,b] [] pos) (tDW X.K λρ=>fa ρ>>=λx=>fb ρ>>=λy=>seqR x.2>>=λn=>seqR y.2>>=λo=>.ok (.al,zipD n o)):=by
 rintro g s u H R I ⟨ρ,F,w,so,e,q⟩
 obtain⟨x,v,e⟩:=Res.aA e;obtain⟨y,A,e⟩:=Res.aA e;obtain⟨n,B,e⟩:=Res.aA e;obtain⟨o,C,e⟩:=Res.aA e;cases e;refine Call_ (z3n I t hm JS (PyProof.Rows.callWith_type1 (aN (JT hs f ha hb pos g s u H (λh d=>Same H d/\eG X.K F H d h [x,y]) I ⟨ρ,F,[x,y],so,by show(fa ρ>>=λx=>fb ρ>>=λy=>Res.ok [x,y])=_;rw[v,A];rfl,λh d r i=>⟨r,i⟩⟩) λG r ⟨h,d,D,E,sm,i⟩=>?_) (gK hs) (by rw[gK f];rfl)));obtain⟨L,M,rfl,j,k⟩:=i.two;obtain⟨N,O,rfl,l,m⟩:=vals2 E;exact z9f ht D l m ((Rep.there _ j).weak (B':=λc=>bM F c/\¬nw d c) λc z=>⟨BG.aM so.aM z.1,z.2⟩) ((Rep.there _ k).weak (B':=λc=>bM F c/\¬nw d c) λc z=>⟨BG.aM so.aM z.1,z.2⟩) B C λJ wk=>q J _ d sm (λc z=>z) wk
theorem D8 (ht:(isTup tg||isNm tg)=Z7)(hm:X.mg "zip"=Z8)(hg:Gl X "zip")(hs:isStar a=Z6)(JV:isStar b=Z6)(ha:PE X a (tD X.K fa))(hb:PE X b (tD X.K fb)):PI X tg (.Call (.Name "zip" p) [a,b] [] pos) (tDF X.K λρ=>(fa ρ>>=λx=>fb ρ>>=λy=>.ok [x,y])>>=λys=>jT ys ρ):=by
 rintro pins s σ H R I ⟨ρ,F,w,so,e,q⟩
 obtain⟨zs,e0,e⟩:=Res.aA e;obtain⟨x,y,e1,e2,rfl⟩:=R6 e0;have e:(if(rV x&&rV y)=Z7 then(seqR x.2>>=λxs=>seqR y.2>>=λzs=>Res.ok (G.al,zipD xs zs,ρ))else Res.no)=Res.ok w:=e;split at e
 case isFalse=>cases e
 rename_i hc;obtain⟨c1,c2⟩:=b6.mp hc;obtain⟨xs,e3,e⟩:=Res.aA e;obtain⟨ys,e4,e⟩:=Res.aA e;cases e;refine Call_ (z3n I hg hm JS (PyProof.Rows.callWith_type1 (aN (JT hs JV ha hb pos pins s σ H (λvs H1=>Same H H1/\eG X.K F H H1 vs [x,y]) I ⟨ρ,F,[x,y],so,by show(fa ρ>>=λx=>fb ρ>>=λy=>Res.ok [x,y])=_;rw[e1,e2];rfl,λvs H1 s1 rs=>⟨s1,rs⟩⟩) λus s1 ⟨vs,H1,I1,r1,sm,rs⟩=>?_) (gK hs) (by rw[gK JV];rfl)));obtain⟨v1,v2,rfl,R7,R8⟩:=rs.two;obtain⟨u1,u2,rfl,R9,Sa⟩:=vals2 r1;obtain⟨B1,k1,k2,k3⟩:=JU so c1 e3 R7;obtain⟨B2,m1,m2,m3⟩:=JU so c2 e4 R8;exact z9f ht I1 R9 Sa (k1.weak (B':=λc=>B1 c\/B2 c) λc z=>.inl z) (m1.weak (B':=λc=>B1 c\/B2 c) λc z=>.inr z) e3 e4 λJ wk=>q J _ H1 F sm Run.refl (bY.same sm) (so.same sm) (λc z=>z.elim (k2 c) (m2 c)) (λc z=>z.elim (k3 c) (m3 c)) wk
theorem Sb (h:PA X es (tDA X.K fs))(hb:PE X b (tD X.K fb))(hl:∀f u,fs f=.ok u->u.length<=bj):PE X (.BinOp (.List es lp) .Mult b pos) (tD X.K λf=>fs f>>=λc=>fb f>>=λn=>lP c n.2):=by
 refine PE.imp (HA O8 (HE h) hb) λS H Q C=>?_;obtain⟨f,F,z,so,e,q⟩:=C;obtain⟨c,w,e⟩:=Res.aA e;obtain⟨n,D,e⟩:=Res.aA e;refine⟨f,F,c,so,w,λj T E I=>?_⟩;have r:=I.jW λx hx a h=>uX so.aM hx h;refine⟨by rw[r.length,af];exact hl f c w,λp y=>?_⟩;have sm:=E.trans (Same.upd (o:=.lst j) y);refine⟨f,F,n,so.same sm,D,λv J l rv=>?_⟩;obtain⟨g,d⟩:=n;cases d<;>try (exact(dS e).elim)
 rename_i k;have e:(if imms (c.map (·.2))=Z7/\0<=k/\k<=aU/\c.length*k.toNat<=aU then Res.ok (G.fr,Z1 (fW k.toNat (c.map (·.2))))else Res.no)=Res.ok z:=e;split at e
 case isFalse=>cases e
 rename_i L;obtain⟨M,h0,A,N⟩:=L;cases e;obtain rfl:v=.int k:=rv;have s:j.length=c.length:=by rw[r.length,af]
 refine⟨p,k,j,rfl,rfl,l _ _ bQ,by unfold aU at A;omega,by unfold aU at A;omega,jX (s▸N),λB i=>?_⟩;refine q _ _ ((sm.trans l).trans (Same.upd i)) ?_
 have O:Reps X.K J (BG F H .fr) (fW k.toNat j) (fW k.toNat (c.map (·.2))):=by
  unfold fW;generalize k.toNat=m
  induction m with
  |zero=>exact rfl
  |succ m P=>rw[i9];exact Reps.append (Reps.bG _ M (r.same ((Same.upd y).trans l) λ_ z=>z)) P
 have t:H B=none:=by
  cases R:H B with
  |none=>rfl
  |some o=>have:=(sm.trans l) _ _ R;rw[i]at this;cases this
 exact oJ i O (λ_ z=>z) t
end
structure rD (prog:b9)(w:World)(h:Heap)(S:Addr)(f:Str->Bool)(c:Nat)(es:Array (Int×Value))(ep:Nat)(t:au)(o:Obj):Prop where
 at_:h.get? S=Z9 o
 ex:o.ExactSet
 dt:o.data=.set es ep t
 el:ElemsOf (strKind prog w) es.toList
 mem:∀k,f k=Z7↔∃e∈es.toList,(strKind prog w).is k e.2=Z7
 qN:es.size<j8
 fit:t.fits es.size=Z7
 cnt:es.size=c
 pl:0<es.size->t.plain=Z6
 ld:t.led=!w.params.followText "set-order"
def IsTS (prog:b9)(w:World)(h:Heap)(S:Addr)(f:Str->Bool)(c:Nat):Prop:=∃es ep t o,rD prog w h S f c es ep t o
def addS (p:(Str->Bool)×Nat)(z:Str):(Str->Bool)×Nat:=(λk=>p.1 k||decide (k=z),if p.1 z then p.2 else p.2+1)
theorem Sf (p:(Str->Bool)×Nat)(z:Str):(addS p z).2<=p.2+1:=by
 unfold addS;split
 .exact lc _
 .exact ar _
theorem Sg (t:au)(es:Array (Int×Value))(n:Nat)(h:t.plain=Z6):(pj t es n).2.1.plain=false:=by
 unfold pj;split
 .rename_i t' order e
  dsimp only
  split
  .unfold SetTable.relaid SetTable.laid at e;cases e2:SetTable.layClean (SetTable.sizeAbove n-1) (es.map (·.1))with
   |none=>rw[e2]at e;cases e
   |some ow=>rw[e2]at e;rw[<-(xu (xr e)).1];exact h
  .rfl
 .rfl
theorem Sh (t:au)(es:Array (Int×Value))(n:Nat):(pj t es n).2.1.led=t.led:=by
 unfold pj;split
 .rename_i t' order e
  dsimp only
  split
  .unfold SetTable.relaid SetTable.laid at e;cases e2:SetTable.layClean (SetTable.sizeAbove n-1) (es.map (·.1))with
   |none=>rw[e2]at e;cases e
   |some ow=>rw[e2]at e;rw[<-(xu (xr e)).1]
  .rfl
 .rfl
theorem Si (t:au)(es:Array (Int×Value))(h:Int)(x:Value):(layNew t es h x).2.1.led=t.led:=by
 unfold layNew;split
 .unfold SetTable.orStandIn
  dsimp only
  split<;>rfl
 .rfl
section
variable {prog:b9}{w:World}{A:dh}{E:Value->ao->Prop}{s:ao}
theorem IsTS.keep {S:Addr}(x:IsTS prog w h S f c)(k:∀o,h.get? S=Z9 o->h'.get? S=Z9 o):IsTS prog w h' S f c:=by obtain⟨es,ep,t,o,x⟩:=x;exact⟨es,ep,t,o,{x with at_:=k o x.at_}⟩
theorem JW {S:Addr}{h:Heap}(ho:h.get? S=Z9 o)(hd:o.data=.set es ep t)(fX:Array (Int×Value))(t':au):(h.update S (Obj.putSet fX t')).get? S=Z9 {o with data:=.set fX (ep+1) t'}:=by have q:=gj (Obj.putSet fX t') ho (by rw[wg fX t' hd];rfl);rw[wg fX t' hd]at q;exact q
theorem ziv {S:Addr}{p:(Str->Bool)×Nat}{z:Str}{u:Tok}{Q:Bool->ao->Prop}(x:IsTS prog w s.heap S p.1 p.2)(room:p.2+1<j8)(fin:∀r h',bu S s.heap h'->IsTS prog w h' S (addS p z).1 (addS p z).2->Q r {s with heap:=h'}):
  wpAny (model prog w) A (q8 S (.str z u) ((strKind prog w).hash z)) Q E s:=by
 obtain⟨es,ep,t,o,x⟩:=x;have key:=strKind_is prog w z u;have hc:=x.cnt
 delta q8 setAddHashedIn
 apply cq;apply aa;refine jv x.at_ x.dt x.fit ?_
 dsimp only
 rw[byScan_of (knd:=strKind prog w) rfl x.qN x.el];rw[xp rfl]
 delta setAddByScan
 apply aa;apply aa;apply jk;apply aa;refine wpAny_setScan_of key x.at_ x.dt x.fit x.el ?_;cases hr:es.toList.findIdx? (λe=>(strKind prog w).is z e.2)with
 |some j=>
  obtain⟨eB,Sj,_⟩:=List.findIdx?_eq_some_iff_getElem.mp hr;have JX:p.1 z=true:=(x.mem z).mpr ⟨_,gz eB,Sj⟩;apply ae;apply ae;refine fin Z6 s.heap (Heap.SameBut.refl S s.heap) ⟨es,ep,t,o,?_⟩;have e2:(addS p z).2=p.2:=by show(if p.1 z then p.2 else p.2+1)=p.2;rw[xp JX]
  refine{x with mem:=λk=>?_,cnt:=by rw[e2];exact hc};show(p.1 k||decide (k=z))=Z7↔_;rw[eh,decide_eq_true_iff,<-x.mem k];exact⟨λh=>h.elim id λe=>e▸JX,Or.inl⟩
 |none=>
  have out:p.1 z=false:=by
   cases hk:p.1 z with
   |false=>rfl
   |true=>obtain⟨e,he,hp⟩:=(x.mem z).mp hk;have this:=List.findIdx?_eq_none_iff.mp hr e he;rw[hp]at this;cases this
  have e2:(addS p z).2=p.2+1:=by show(if p.1 z then p.2 else p.2+1)=p.2+1;rw[xq (by rw[out];decide)]
  have say:∀(b:Bool) {s1:ao} {Q':Unit->ao->Prop},Q' () s1->wpAny (model prog w) A (match b with|true=>rule "set.scan.the-table-gave-way"|false=>pure ()) Q' E s1:=λb s1 Q' q=>by
   cases b
   .exact ae q
   .exact jk q
  have pm:=layNew_perm t es ((strKind prog w).hash z) (.str z u);have ft:=layNew_fits t es ((strKind prog w).hash z) (.str z u);have nl:=(Si t es ((strKind prog w).hash z) (.str z u)).trans x.ld
  dsimp only
  generalize layNew t es ((strKind prog w).hash z) (.str z u)=L at pm ft nl ⊢;obtain⟨es1,t1,was,D9⟩:=L
  dsimp only at pm ft nl ⊢
  rw[Array.toList_push]at pm;have sz:es1.size=p.2+1:=by rw[<-bq,pm.length_eq,am,bq,hc];rfl
  have vD:ElemsOf (strKind prog w) es1.toList:=(x.el.push key rfl).perm pm;have yB:∀k,(addS p z).1 k=Z7↔∃e∈es1.toList,(strKind prog w).is k e.2=true:=mem_push_iff key x.mem pm
  have store:∀{R:Option Bool->ao->Prop},(∀h',bu S s.heap h'->IsTS prog w h' S (addS p z).1 (addS p z).2->R (Z9 Z7) {s with heap:=h'})->∀(t2:au),t2.fits es1.size=Z7->t2.plain=Z6->t2.led=(!w.params.followText "set-order")->wpAny (model prog w) A (do
    storeSet S es1 t2
    if(!was&&t2.tooFull)=Z7 then do
       (match(pj t2 es1 (SetTable.grown es1.size)).2.2 with|true=>rule "set.scan.the-table-gave-way"|false=>pure ())
       storeSet S (pj t2 es1 (SetTable.grown es1.size)).1 (pj t2 es1 (SetTable.grown es1.size)).2.1
       pure (Z9 Z7)
     else pure (Z9 Z7)) R E s:=λ{R} hR t2 f2 p2 l2=>by
   have gY:es1.size<=bj:=p5 (by omega);apply aa;refine m8 x.at_ x.dt ?_ gY;have g1:=JW x.at_ x.dt es1 t2;split
   .have vE:=relayAll_perm t2 es1 (SetTable.grown es1.size);have D':=relayAll_fits t2 es1 (SetTable.grown es1.size);have Ea:=Sg t2 es1 (SetTable.grown es1.size) p2;have Eb:=(Sh t2 es1 (SetTable.grown es1.size)).trans l2;generalize pj t2 es1 (SetTable.grown es1.size)=Rl at vE D' Ea Eb ⊢;obtain⟨oU,t3,gv⟩:=Rl
    dsimp only at vE D' Ea Eb ⊢
    have Ec:oU.size=es1.size:=by rw[<-bq,vE.length_eq,bq]
    apply aa;refine say gv ?_;apply aa;refine m8 g1 rfl ?_ (by rw[Ec];exact gY);refine ae (hR _ ((gg s.heap S _).trans (gg _ S _)) ⟨oU,ep+1+1,t3,{o with data:=.set oU (ep+1+1) t3},?_⟩);exact{at_:=JW g1 rfl oU t3,ex:=x.ex,dt:=rfl,el:=vD.perm vE,mem:=λk=>(yB k).trans ⟨λ⟨e,he,q⟩=>⟨e,vE.mem_iff.mpr he,q⟩,λ⟨e,he,q⟩=>⟨e,vE.mem_iff.mp he,q⟩⟩,qN:=by rw[Ec,sz];exact room,fit:=D',cnt:=by rw[Ec,sz,e2],pl:=λ_=>Ea,ld:=Eb}
   .refine ae (hR _ (gg s.heap S _) ⟨es1,ep+1,t2,{o with data:=.set es1 (ep+1) t2},?_⟩);exact{at_:=g1,ex:=x.ex,dt:=rfl,el:=vD,mem:=yB,qN:=by rw[sz];exact room,fit:=f2,cnt:=by rw[sz,e2],pl:=λ_=>p2,ld:=l2}
  apply aa;refine say D9 ?_;split
  .apply aa;rw[hashByValue_scannable 8 (x:=.str z u) rfl];refine ae ?_;refine store (λh' sb ts=>?_) {t1 with plain:=Z6} (SetTable.fits_plain_off ft) rfl nl;exact ae (fin Z7 h' sb ts)
  .rename_i np
   have np:t1.plain=false:=by
    cases h:t1.plain with
    |false=>rfl
    |true=>exact absurd h np
   apply aa;refine ae ?_;refine store (λh' sb ts=>?_) t1 ft np nl;exact ae (fin Z7 h' sb ts)
end
section
variable {prog:b9}{w:World}{A:dh}{R:xo->ao->Prop}{I:Addr}{fp wr:List Addr}{Gn:Array qm->Array qm->Prop}{n:Nat}{P:Nat->Value->Prop}{St:Nat->ao->Prop}
theorem z9x (W:WalksS prog w A.in1 I fp wr Gn n P St){S:Addr}(no:S∉fp)(val:Nat->Str)(tx:∀i v,P i v->∃t,v=.str (val i) t)(room:n+1<j8):
  ∀(k i:Nat) (s:ao) (p:(Str->Bool)×Nat),i+k=n->p.2<=i->St i s->IsTS prog w s.heap S p.1 p.2->
   (∀s' q,Moved (S::wr) Gn s s'->q=((List.range' i k).map val).foldl addS p->IsTS prog w s'.heap S q.1 q.2->R (.ok (.ret .none)) s')->
   kz (model prog w) A (Code.builtin "set.update.loop" ⟨[ZV S,ZV I],[]⟩) R s:=by
 have now:S∉wr:=λz=>no (W.sub S z);intro k
 induction k with
 |zero=>intro i s p e hp st set fin;cases e;refine dq PyProof.Rows.F.entry_set_update_loop ?_;apply aa;refine W.done s _ _ st λs1 mv=>?_;exact ae (fin s1 p (mv.mono λb z=>av S z) rfl (set.keep λo=>mv.heap S o now))
 |succ k ih=>
  intro i s p e hp st set fin;refine dq PyProof.Rows.F.entry_set_update_loop ?_;apply aa;refine W.item i s _ _ (by omega) st λv s1 hv sO mv=>?_;obtain⟨t,rfl⟩:=tx i v hv;have Ed:=set.keep λo=>mv.heap S o now;apply aa;apply cq
  delta setAdd
  apply cq;apply aa;refine(strKind prog w).pyHash (strKind_is prog w (val i) t) ?_;refine ziv Ed (by omega) λr h2 same iM=>?_;have le:=Sf p (val i);refine ae ⟨kx PyProof.Rows.F.plain_set_update_loop _,ih (i+1) _ (addS p (val i)) (by omega) (by omega) (W.frame _ s1 _ _ sO (lc _) λb hb o z=>?_) iM λs3 q Ee eq sP=>?_⟩
  .have cU:b≠S:=λz=>no (z▸hb);exact(same.2 b cU).trans z
  .refine fin s3 q (Moved.trans W.gtrans ((mv.mono λb z=>av S z).then_heap (lc _) λb o hb z=>?_) Ee) eq sP;have cU:b≠S:=λz=>hb (z▸ah);exact(same.2 b cU).trans z
end
section
variable {prog:b9}{w:World}{A:dh}{E:Value->ao->Prop}{s:ao}
abbrev nilS (led:Bool):Obj:={cls:=.type "set",dict:=Z8,data:=.set #[] 0 (.fresh 0 0 led)}
def z43 (prog:b9)(w:World)(s:ao)(us:List Str)(s':ao):Prop:=∃h' tk,s'={s with heap:=h',toks:=tk}/\IsTS prog w h' s.heap.objs.size (us.foldl addS (λ_=>Z6,0)).1 (us.foldl addS (λ_=>Z6,0)).2/\∀b o,b<s.heap.objs.size->s.heap.get? b=Z9 o->h'.get? b=Z9 o
theorem JY (a:Value)(h:Q1 (.ref s.heap.objs.size) {s with heap:=s.heap.push (nilS (!w.params.followText "set-order"))}):kz (model prog w) A (.call (.builtin "set.__new__") ⟨[.type "set",a],[]⟩) (wants Q1 E) s:=by
 apply l5;apply aa;refine wpAny_of_eq (PySem.F.newCall_set_1 a) (ae ⟨kx PySem.F.plain_set_new _,dq PySem.F.entry_set_new ?_⟩)
 delta Builtin.«set.__new__» pp
 have f1:=sub_set_self;obtain⟨h0,g0,d0,t0,o0⟩:=s
 wp_walk;refine wpAny_askSetting (ae ?_)
 apply aa;refine wpAny_alloc (ae ?_);exact ae h
theorem zij {l:Addr}{items:Array Value}{val:Nat->Str}(led:Bool)(hled:led=!w.params.followText "set-order")(hh:A.handled=Z8)(hl:s.heap.IsList l items)(tx:∀(i:Nat) (v:Value),items[i]?=Z9 v->∃t,v=Value.str (val i) t)(hb:items.size+1<j8):
  wpAny (model prog w) A.in1.in1 (Builtin.«set.__init__» ⟨[.ref s.heap.objs.size,.ref l],[]⟩) (λfin s'=>fin=.done (.ret .none)/\z43 prog w s ((cr items.size).map val) s') E {s with heap:=s.heap.push (nilS led)}:=by
 obtain⟨ol,oW,eO,nl,qO⟩:=hl;obtain⟨c0,d0,JZ,yC⟩:=ol;simp only at eO qO;subst eO qO;have low:l<s.heap.objs.size:=bh oW;have hS:(s.heap.push (nilS led)).get? s.heap.objs.size=Z9 (nilS led):=a7 _ rfl;have hT:Shared.TypeIs {s with heap:=s.heap.push (nilS led)} (.ref s.heap.objs.size) "set":=⟨_,hS,rfl⟩;have f0:(s.heap.push (nilS led)).get? l=Z9 {cls:=.type "list",dict:=d0,data:=.seq items nl,slots:=yC}:=ac _ oW;have f1:=PySem.F.sub_list_set;have f2:=PySem.F.sub_list_frozenset;have f3:(ZU "list"==ZU "dict")=false:=by decide
 have lst:(s.heap.push (nilS led)).IsList l items:=⟨_,f0,rfl,nl,rfl⟩
 delta Builtin.«set.__init__» xm kt
 generalize gp:qp=PI
 wp_walk
 subst gp;refine k8 lst ?_;apply aa;apply pi;have hA:A.in1.in1.in1.handled=none:=by simp only[Around.in1];exact hh
 have nI:l≠(s.heap.push (nilS led)).objs.size:=by rw[gk];exact br (gi low)
 have nS:s.heap.objs.size∉ [(s.heap.push (nilS led)).objs.size,l]:=by
  rw[gk];intro z;rcases aw.mp z with z|z
  .exact br (lh _) z
  .exact lg low (ay.mp z)
 refine z9x (Walks.list hA _ l nI items).toS nS val tx hb items.size 0 _ (λ_=>Z6,0) (ll _) (ar 0) ⟨⟨_,a7 _ rfl,rfl,rfl⟩,lst.push _⟩ ?_ ?_
 .exact⟨#[],0,.fresh 0 0 led,nilS led,{at_:=ac _ hS,ex:=⟨rfl,rfl,rfl⟩,dt:=rfl,el:=λe he=>by simp at he,mem:=λk=>by simp,qN:=by decide,fit:=rfl,cnt:=rfl,pl:=λz=>absurd z (cg 0),ld:=hled}⟩
 .intro s2 q mv eq iM;obtain⟨h2,g2,d2,t2,o2⟩:=s2;have e1:g2=s.gens:=mv.gens;have e2:d2=s.drawn:=mv.drawn;have e3:o2=s.os:=mv.os;subst e1 e2 e3 eq;show wpAny _ _ _ _ _ _;refine ae (ae ⟨rfl,h2,t2,rfl,by rw[jw];exact iM,λb o lt z=>?_⟩);refine mv.heap b o (λz=>?_) (ac _ (ac _ z));rcases aw.mp z with z|z
  .exact br lt z
  .have z:=ay.mp z;rw[gk]at z;exact br (gi lt) z
theorem zes {l:Addr}{items:Array Value}{val:Nat->Str}{Q:Value->ao->Prop}(hh:A.handled=Z8)(hl:s.heap.IsList l items)(tx:∀(i:Nat) (v:Value),items[i]?=Z9 v->∃t,v=Value.str (val i) t)(hb:items.size+1<j8)
  (h:∀s',z43 prog w s ((cr items.size).map val) s'->Q (.ref s.heap.objs.size) s'):wpAny (model prog w) A (call (.type "set") [.ref l]) Q E s:=by
 have ft:=PySem.F.called_set;obtain⟨c,tl,m1⟩:=ft.mro;have m2:=ft.made;have m3:=ft.sub;have m4:=ft.notType;have m5:=ft.canCreate;have m6:=PySem.F.typeCall_set_1 (.ref l);apply qq;apply l5;change wpAny _ _ (callAny (.type "set") _) _ _ _;refine ae ⟨Code.quiet_builtin _ (by decide+kernel),dq PySem.F.entry_type_call ?_⟩;rw[Around.under_plain (ny "set" [ZV l] []) rfl]
 repeat (any_goals first|assumption|wp_step)
 refine ja (JY (.ref l) (E:=E) (Q1:=λobj s1=>∃led:Bool,(led=!w.params.followText "set-order")/\obj=.ref s.heap.objs.size/\s1={s with heap:=s.heap.push (nilS led)}) ⟨_,rfl,rfl,rfl⟩) λr s1 hr=>?_;cases r with
 |error e=>exact hr
 |ok fl=>
  cases fl with
  |ret obj=>
   obtain⟨led,hled,rfl,rfl⟩:=hr;have hT:Shared.TypeIs {s with heap:=s.heap.push (nilS led)} (.ref s.heap.objs.size) "set":=⟨_,a7 _ rfl,rfl⟩;have i1:=ft.init.lookup;have i2:=ft.init.bind (.ref s.heap.objs.size)
   repeat (any_goals first|assumption|wp_step)
   refine ja (jx (R:=wants (λr s2=>r=.none/\z43 prog w s ((cr items.size).map val) s2) E) ft.init.plain PySem.F.entry_set_init (qo hT ?_)) λr2 s2 mD=>?_
   .refine jg (zij (s:=s) (E:=E) led hled hh hl tx hb) (λfin s3 z=>?_) (λe s3 z=>?_)
    .obtain⟨rfl,z⟩:=z;exact⟨rfl,z⟩
    .exact z
   .cases r2 with
    |error e=>exact mD
    |ok sQ=>
     cases sQ with
     |ret v=>
      obtain⟨rfl,z⟩:=mD
      repeat (any_goals first|assumption|wp_step)
      exact h _ z
     |_=>exact mD.elim
  |_=>exact hr.elim
end
section
variable {prog:b9}{w:World}{A:dh}{E:Value->ao->Prop}{s:ao}
theorem ze1 {l:Addr}{items:Array Value}{val:Nat->Str}(led:Bool)(hled:led=!w.params.followText "set-order")(hh:A.handled=Z8)(hl:s.heap.IsTuple l items)(tx:∀(i:Nat) (v:Value),items[i]?=Z9 v->∃t,v=Value.str (val i) t)(hb:items.size+1<j8):
  wpAny (model prog w) A.in1.in1 (Builtin.«set.__init__» ⟨[.ref s.heap.objs.size,.ref l],[]⟩) (λfin s'=>fin=.done (.ret .none)/\z43 prog w s ((cr items.size).map val) s') E {s with heap:=s.heap.push (nilS led)}:=by
 obtain⟨ol,oW,eO,nl,qO⟩:=hl;obtain⟨c0,d0,JZ,yC⟩:=ol;simp only at eO qO;subst eO qO;have low:l<s.heap.objs.size:=bh oW;have hS:(s.heap.push (nilS led)).get? s.heap.objs.size=Z9 (nilS led):=a7 _ rfl;have hT:Shared.TypeIs {s with heap:=s.heap.push (nilS led)} (.ref s.heap.objs.size) "set":=⟨_,hS,rfl⟩;have f0:(s.heap.push (nilS led)).get? l=Z9 {cls:=.type "tuple",dict:=d0,data:=.seq items nl,slots:=yC}:=ac _ oW;have f1:=PySem.F.sub_tuple_set;have f2:=PySem.F.sub_tuple_frozenset;have f3:(ZU "tuple"==ZU "dict")=false:=by decide
 have lst:(s.heap.push (nilS led)).IsTuple l items:=⟨_,f0,rfl,nl,rfl⟩
 delta Builtin.«set.__init__» xm kt
 generalize gp:qp=PI
 wp_walk
 subst gp;refine l8 lst ?_;apply aa;apply pi;have hA:A.in1.in1.in1.handled=none:=by simp only[Around.in1];exact hh
 have nI:l≠(s.heap.push (nilS led)).objs.size:=by rw[gk];exact br (gi low)
 have nS:s.heap.objs.size∉ [(s.heap.push (nilS led)).objs.size,l]:=by
  rw[gk];intro z;rcases aw.mp z with z|z
  .exact br (lh _) z
  .exact lg low (ay.mp z)
 refine z9x (Walks.tuple hA _ l nI items).toS nS val tx hb items.size 0 _ (λ_=>Z6,0) (ll _) (ar 0) ⟨⟨_,a7 _ rfl,rfl,rfl⟩,IsB.push (l:=Z6) lst _⟩ ?_ ?_
 .exact⟨#[],0,.fresh 0 0 led,nilS led,{at_:=ac _ hS,ex:=⟨rfl,rfl,rfl⟩,dt:=rfl,el:=λe he=>by simp at he,mem:=λk=>by simp,qN:=by decide,fit:=rfl,cnt:=rfl,pl:=λz=>absurd z (cg 0),ld:=hled}⟩
 .intro s2 q mv eq iM;obtain⟨h2,g2,d2,t2,o2⟩:=s2;have e1:g2=s.gens:=mv.gens;have e2:d2=s.drawn:=mv.drawn;have e3:o2=s.os:=mv.os;subst e1 e2 e3 eq;show wpAny _ _ _ _ _ _;refine ae (ae ⟨rfl,h2,t2,rfl,by rw[jw];exact iM,λb o lt z=>?_⟩);refine mv.heap b o (λz=>?_) (ac _ (ac _ z));rcases aw.mp z with z|z
  .exact br lt z
  .have z:=ay.mp z;rw[gk]at z;exact br (gi lt) z
theorem zcq {l:Addr}{items:Array Value}{val:Nat->Str}{Q:Value->ao->Prop}(hh:A.handled=Z8)(hl:s.heap.IsTuple l items)(tx:∀(i:Nat) (v:Value),items[i]?=Z9 v->∃t,v=Value.str (val i) t)(hb:items.size+1<j8)
  (h:∀s',z43 prog w s ((cr items.size).map val) s'->Q (.ref s.heap.objs.size) s'):wpAny (model prog w) A (call (.type "set") [.ref l]) Q E s:=by
 have ft:=PySem.F.called_set;obtain⟨c,tl,m1⟩:=ft.mro;have m2:=ft.made;have m3:=ft.sub;have m4:=ft.notType;have m5:=ft.canCreate;have m6:=PySem.F.typeCall_set_1 (.ref l);apply qq;apply l5;change wpAny _ _ (callAny (.type "set") _) _ _ _;refine ae ⟨Code.quiet_builtin _ (by decide+kernel),dq PySem.F.entry_type_call ?_⟩;rw[Around.under_plain (ny "set" [ZV l] []) rfl]
 repeat (any_goals first|assumption|wp_step)
 refine ja (JY (.ref l) (E:=E) (Q1:=λobj s1=>∃led:Bool,(led=!w.params.followText "set-order")/\obj=.ref s.heap.objs.size/\s1={s with heap:=s.heap.push (nilS led)}) ⟨_,rfl,rfl,rfl⟩) λr s1 hr=>?_;cases r with
 |error e=>exact hr
 |ok fl=>
  cases fl with
  |ret obj=>
   obtain⟨led,hled,rfl,rfl⟩:=hr;have hT:Shared.TypeIs {s with heap:=s.heap.push (nilS led)} (.ref s.heap.objs.size) "set":=⟨_,a7 _ rfl,rfl⟩;have i1:=ft.init.lookup;have i2:=ft.init.bind (.ref s.heap.objs.size)
   repeat (any_goals first|assumption|wp_step)
   refine ja (jx (R:=wants (λr s2=>r=.none/\z43 prog w s ((cr items.size).map val) s2) E) ft.init.plain PySem.F.entry_set_init (qo hT ?_)) λr2 s2 mD=>?_
   .refine jg (ze1 (s:=s) (E:=E) led hled hh hl tx hb) (λfin s3 z=>?_) (λe s3 z=>?_)
    .obtain⟨rfl,z⟩:=z;exact⟨rfl,z⟩
    .exact z
   .cases r2 with
    |error e=>exact mD
    |ok sQ=>
     cases sQ with
     |ret v=>
      obtain⟨rfl,z⟩:=mD
      repeat (any_goals first|assumption|wp_step)
      exact h _ z
     |_=>exact mD.elim
  |_=>exact hr.elim
end
theorem Ef:∀ws acc,acc.Nodup->(eJ acc ws).Nodup/\(∀k,k∈eJ acc ws↔k∈acc\/k∈ws)/\ws.foldl addS (λk=>decide (k∈acc),acc.length)=(λk=>decide (k∈eJ acc ws),(eJ acc ws).length)
 | [],acc,nd=>⟨nd,λk=>⟨.inl,λz=>z.elim id λz=>by cases z⟩,rfl⟩
 |z::ws,acc,nd=>by
  by_cases h:z∈acc
  .obtain⟨h1,h2,h3⟩:=Ef ws acc nd;have e:eJ acc (z::ws)=eJ acc ws:=by show eJ (if z∈acc then acc else acc++[z]) ws=_;rw[xp h]
   rw[e];refine⟨h1,λk=>(h2 k).trans ⟨λy=>y.elim .inl λy=>.inr (av _ y),λy=>y.elim .inl λy=>?_⟩,?_⟩
   .rcases aw.mp y with rfl|y
    .exact .inl h
    .exact .inr y
   .rw[<-h3];show ws.foldl addS (addS (λk=>decide (k∈acc),acc.length) z)=_
    congr 1
    show((λk=>decide (k∈acc)||decide (k=z)),if decide (z∈acc)=Z7 then acc.length else acc.length+1)=_;rw[xp (xz h)]
    congr 1
    funext k
    by_cases hk:k=z
    .rw[hk,xz h];rfl
    .rw[x4 hk,p8]
  .have nd':(acc++[z]).Nodup:=by
    rw[il];exact⟨nd,bw.mpr ⟨nofun,gm⟩,λa ha b hb e=>by rw[ay.mp hb]at e;exact h (e▸ha)⟩
   obtain⟨h1,h2,h3⟩:=Ef ws (acc++[z]) nd';have e:eJ acc (z::ws)=eJ (acc++[z]) ws:=by show eJ (if z∈acc then acc else acc++[z]) ws=_;rw[xq h]
   rw[e];refine⟨h1,λk=>(h2 k).trans ?_,?_⟩
   .rw[cf,ay,aw,or_assoc]
   .rw[<-h3];show ws.foldl addS (addS (λk=>decide (k∈acc),acc.length) z)=_
    congr 1
    show((λk=>decide (k∈acc)||decide (k=z)),if decide (z∈acc)=Z7 then acc.length else acc.length+1)=_;rw[xq (by rw[x4 h];decide),am]
    congr 1
    funext k
    by_cases hk:k=z
    .rw[hk,xz (aq _ (ay.mpr rfl)),xz rfl,lj]
    .rw[x4 hk,p8];exact decide_eq_decide.mpr ⟨cx _,λy=>(cf.mp y).elim id λy=>absurd (ay.mp y) hk⟩
def SO (P:b9)(w:World)(p:Addr)(ws:List Str):HO:=.ext λh=>IsTS P w h p (λk=>decide (k∈eJ [] ws)) (eJ [] ws).length
theorem Eg {K:Z5}:∀{ws:List Str} {vs:List V} {its:List Value},Vals vs its->Reps K H B vs (ws.map .str)->(∀(i:Nat) (v:Value),its[i]?=Z9 v->∃t,v=Value.str (ws.getD i ⟨#[]⟩) t)/\(∀w∈ws,Z3 w=Z7)/\its.length=ws.length
 | [],vs,its,r,q=>by subst q;cases r;exact⟨(λi v h=>by cases h),(λ_ h=>by cases h),rfl⟩
 |w::ws,vs,its,r,q=>by
  obtain⟨v,tl,rfl,q1,q2⟩:=q;cases r with
  |cons r1 r2=>
   obtain⟨rfl,ok⟩:=q1;obtain⟨h1,h2,h3⟩:=Eg r2 q2;obtain⟨t,rfl⟩:=r1;refine⟨λi v h=>?_,λz hz=>?_,congrArg (· +1) h3⟩
   .cases i with
    |zero=>cases h;exact⟨t,rfl⟩
    |succ i=>exact h1 i v h
   .rcases aw.mp hz with rfl|hz
    .exact ok
    .exact h2 z hz
section
variable {X:Cx}
def Eh (l:Bool)(xs:List D):D:=if l then .list xs else .tuple xs
def Ei (X:Cx):List V->Hp->VK->Prop:=λxs H Q=>∃B x ws l,xs=[x]/\Rep X.K H B x (Eh l (ws.map .str))/\ws.length<4000/\((∀w∈ws,Z3 w=Z7)->∀p,H p=Z8->Q (.ref p) (upd H p (SO X.prog X.w p ws)))
theorem Sk (hc:X.calm=Z7):CallR X (.type "set") (Ei X):=by
 intro pins s σ H xs us Q I r h;obtain⟨B,x,ws,l,rfl,rx,hl,q⟩:=h;obtain⟨a,vs,rfl,mU,rs⟩:=oO rx (show z4n (Eh l (ws.map .str))=.ok (l,ws.map .str) by cases l<;>rfl);obtain⟨u,rfl,ru⟩:=vals1 r;cases ru
 have fin:∀(its:List Value),its.length=ws.length->(∀w∈ws,Z3 w=Z7)->∀s',z43 X.prog X.w s ((cr its.toArray.size).map λi=>ws.getD i ⟨#[]⟩) s'->EP X pins σ Q (.ref s.heap.objs.size) s':=by
  intro its len ok s' out;obtain⟨h',tk,rfl,ts,kp⟩:=out;have Ej:=λb u e=>kp b u (bh e) e;have hH:=I.hok.fresh (ar _)
  have ev:(cr its.toArray.size).map (λi=>ws.getD i ⟨#[]⟩)=ws:=by
   rw[bn,len];refine vt λi=>?_;rw[bt];by_cases hi:i<ws.length
   .rw[oy hi,ba hi];show Z9 (ws.getD i ⟨#[]⟩)=_;rw[az,ba hi];rfl
   .rw[sf (by rw[gh];omega),sf (by omega)];rfl
  rw[ev]at ts;have h0:=(Ef ws [] gm).2.2;have e0:(λk=>decide (k∈([]:List Str)),([]:List Str).length)=((λ_=>Z6,0):(Str->Bool)×Nat):=by congr 1
  rw[e0]at h0;rw[h0]at ts;have o1:∃o,h'.get? s.heap.objs.size=Z9 o:=by obtain⟨es,ep,t,o,x⟩:=ts;exact⟨o,x.at_⟩
  have I2:=I.laid (o:=SO X.prog X.w s.heap.objs.size ws) (t':=tk) Ej (ar _) ⟨ts,o1,λh1 h2 x k=>x.keep k⟩;exact⟨.ref s.heap.objs.size,_,I2,rfl,q ok _ hH⟩
 cases l with
 |true=>obtain⟨its,rv,pl,hz⟩:=I.list mU;obtain⟨tx,ok,len⟩:=Eg rv rs;exact zes (I.ok.hd hc) pl.isList (λi v e=>tx i v (by rw[ky]at e;exact e)) (by rw[bn,len];unfold j8;omega) (fin its len ok)
 |false=>obtain⟨its,rv,pl,hz⟩:=I.tuple mU;obtain⟨tx,ok,len⟩:=Eg rv rs;exact zcq (I.ok.hd hc) pl (λi v e=>tx i v (by rw[ky]at e;exact e)) (by rw[bn,len];unfold j8;omega) (fin its len ok)
theorem Sl:CallR X (.builtin "len") (λxs H Q=>∃p ws,xs=[.ref p]/\H p=Z9 (SO X.prog X.w p ws)/\Q (.int (eJ [] ws).length) H):=by
 rintro pins s σ H xs us Q I r ⟨p,ws,rfl,hH,q⟩
 obtain⟨u,rfl,rfl⟩:=vals1 r;obtain⟨⟨es,ep,t,o,x⟩,_⟩:=I.hok p _ hH;have hf:(es.size:Int)<2 ^ 63:=by have:=x.qN;unfold j8 at this;omega
 exact call_len_set x.at_ x.ex x.dt x.fit hf ⟨.int (eJ [] ws).length,H,I.tok _,⟨s.toks+1,by rw[x.cnt]⟩,q⟩
theorem J1:∀{xs:List D} {ws:List Str},dI xs=Z9 ws->xs=ws.map .str
 | [],ws,e=>by cases e;rfl
 |x::xs,ws,e=>by
  cases x with
  |str z=>
   change(dI xs).map (z:: ·)=_ at e;cases e1:dI xs with
   |none=>rw[e1]at e;cases e
   |some us=>rw[e1]at e;cases e;rw[J1 e1];rfl
  |_=>cases e
theorem J2 (e:qB xs=.ok d):∃ws,xs=ws.map .str/\ws.length<4000/\d=.int (eJ [] ws).length:=by
 change(match dI xs with|some ws=>if decide (ws.length<4000)=Z7 then Res.ok (Z0 ((eJ [] ws).length:Int))else .no|none=>.no)=_ at e;cases e1:dI xs with
 |none=>rw[e1]at e;cases e
 |some ws=>
  rw[e1]at e
  dsimp only at e
  cases hc:decide (ws.length<4000)with
  |false=>rw[hc]at e;cases e
  |true=>rw[hc]at e;cases e;exact⟨ws,J1 e1,xv hc,rfl⟩
def J3:D->Res D
 |.list xs=>qB xs
 |.tuple xs=>qB xs
 |_=>.no
theorem Sm (e:J3 x=.ok d):∃ws l,x=Eh l (ws.map .str)/\ws.length<4000/\d=.int (eJ [] ws).length:=by
 cases x with
 |list xs=>obtain⟨ws,rfl,h⟩:=J2 e;exact⟨ws,Z7,rfl,h⟩
 |tuple xs=>obtain⟨ws,rfl,h⟩:=J2 e;exact⟨ws,Z6,rfl,h⟩
 |_=>cases e
end
def oX (t:au):Prop:=t.place.toList.Pairwise (· < ·)/\t.dummies=#[]
theorem zh4 (f:Array Nat)(j:Nat)(hs:f.toList.Pairwise (· < ·)):∀c e d,d-e<=c->e<=d->d<=f.size->(∀i,i<e->∀v,f[i]?=Z9 v->v<j)->(∀i,d<=i->∀v,f[i]?=Z9 v->j<=v)->
  let p:=SetTable.below.go f j c e d
  p<=f.size/\(∀i,i<p->∀v,f[i]?=Z9 v->v<j)/\∀i,p<=i->∀v,f[i]?=Z9 v->j<=v:=by
 intro c
 induction c with
 |zero=>
  intro e d x y l m n;have:e=d:=by omega
  subst this;exact⟨l,m,n⟩
 |succ c w=>
  intro e d x y l m n;unfold SetTable.below.go;by_cases g:e<d
  .rw[xp g]
   dsimp only
   have hm:(e+d)/2<f.size:=by omega
   have h:=e8 hm;have k:∀a b q r,a<b->f[a]?=Z9 q->f[b]?=Z9 r->q<r:=λa b q r s z A=>by obtain⟨B,rfl⟩:=c6.mp z;obtain⟨hb,rfl⟩:=c6.mp A;have:=lq.mp hs a b (by simpa using B) (by simpa using hb) s;simpa using this
   have C:f.getD ((e+d)/2) j=f[(e+d)/2]:=by rw[cy,h];rfl
   rw[C];by_cases o:f[(e+d)/2]<j
   .rw[xp o];refine w _ _ (by omega) (by omega) l (λi t v ev=>?_) n;by_cases u:i=(e+d)/2
    .subst u;rw[h]at ev;cases ev;exact o
    .exact o6 (k i _ v _ (by omega) ev h) o
   .rw[xq o];refine w _ _ (by omega) (by omega) (by omega) m λi t v ev=>?_;by_cases u:i=(e+d)/2
    .subst u;rw[h]at ev;cases ev;omega
    .have :=k _ i _ v (by omega) h ev;omega
  .rw[xq g];have:e=d:=by omega
   subst this;exact⟨l,m,n⟩
theorem Ek (hs:xs.toList.Pairwise (· < ·))(j:Nat):SetTable.below xs j<=xs.size/\(∀i,i<SetTable.below xs j->∀v,xs[i]?=Z9 v->v<j)/\∀i,SetTable.below xs j<=i->∀v,xs[i]?=Z9 v->j<=v:=zh4 xs j hs xs.size 0 xs.size (by omega) (dr _) (ar _) (λi h=>absurd h (Nat.not_lt_zero _)) λi h v e=>by rw[qz h]at e;cases e
theorem El {b:Type}(a:Array b)(p:Nat)(x:b)(c:p<=a.size):(SetTable.insertAt a p x).toList=a.toList.take p++x::a.toList.drop p:=by unfold SetTable.insertAt;simp;rw[jc (l:=a.toList.drop p) (jd▸ar _)]
theorem Sn (r:oX t)(hj:∀i:Nat,t.place[i]?≠Z9 j):oX (t.put j).1:=by
 obtain⟨h1,h2,h3⟩:=Ek r.1 j;constructor
 .show(SetTable.insertAt t.place (SetTable.below t.place j) j).toList.Pairwise _;rw[El _ _ _ h1];have ps:=r.1;rw[<-nr (SetTable.below t.place j) t.place.toList]at ps;obtain⟨p1,p2,p3⟩:=jy.mp ps;refine jy.mpr ⟨p1,cn.mpr ⟨λv hv=>?_,p2⟩,λa ha b hb=>?_⟩
  .obtain⟨i,hi⟩:=dm.mp hv;rw[uw]at hi;have e1:t.place[SetTable.below t.place j+i]?=Z9 v:=d9▸hi;have:=h3 _ (by omega) v e1;have ne:v≠j:=λz=>hj _ (z▸e1);omega
  .have aj:a<j:=by
    obtain⟨i,hi⟩:=dm.mp ha;rw[List.getElem?_take]at hi;split at hi
    .rename_i eB;exact h2 i eB a (d9▸hi)
    .cases hi
   rcases aw.mp hb with rfl|hb
   .exact aj
   .exact p3 a ha b hb
 .show(if SetTable.has t.dummies j then _ else t.dummies)= #[];rw[r.2];unfold SetTable.has;rw[xq (by simp)]
section
variable {prog:b9}{w:World}{A:dh}{E:Value->ao->Prop}{s:ao}
theorem J4 {S:Addr}{h:Heap}(ho:h.get? S=Z9 o)(hd:o.data=.set es ep t)(fX:Array (Int×Value))(t':au):(h.update S (Obj.putSet fX t')).get? S=Z9 {o with data:=.set fX (ep+1) t'}:=by have q:=gj (Obj.putSet fX t') ho (by rw[wg fX t' hd];rfl);rw[wg fX t' hd]at q;exact q
end
section
variable {prog:b9}{w:World}{A:dh}{E:Value->ao->Prop}{s:ao}
abbrev nilI (led:Bool):Obj:={cls:=.type "set",dict:=Z8,data:=.set #[] 0 (.fresh 0 0 led)}
theorem So (a:Value)(h:Q1 (.ref s.heap.objs.size) {s with heap:=s.heap.push (nilI (!w.params.followText "set-order"))}):kz (model prog w) A (.call (.builtin "set.__new__") ⟨[.type "set",a],[]⟩) (wants Q1 E) s:=by
 apply l5;apply aa;refine wpAny_of_eq (PySem.F.newCall_set_1 a) (ae ⟨kx PySem.F.plain_set_new _,dq PySem.F.entry_set_new ?_⟩)
 delta Builtin.«set.__new__» pp
 have b:=sub_set_self
 wp_walk;refine wpAny_askSetting (ae ?_)
 apply aa;refine wpAny_alloc (ae ?_);exact ae h
end
def J5 (m i:Nat):Nat:=(i*5+1)%(m+1)
def kG (m:Nat):Nat->Nat->Nat
 |0,i=>i
 |k+1,i=>kG m k (J5 m i)
def z45 (m:Nat):Prop:=m=7\/m=31\/m=127
def yD (m:Nat):Nat->Nat->Nat
 |0,i=>2 ^ i
 |k+1,i=>2 ^ i|||yD m k ((i*5+1)%(m+1))
theorem J6:∀{k i e:Nat},(yD m k i).testBit e=Z7->∃q,q<=k/\kG m q i=e
 |0,i,e,h=>⟨0,ar _,by rw[yD,ua]at h;exact xv h⟩
 |k+1,i,e,h=>by
  rw[yD,Nat.testBit_or]at h;rcases(eh _ _).mp h with h|h
  .exact⟨0,dr _,by rw[ua]at h;exact xv h⟩
  .obtain⟨q,hq,e⟩:=J6 h;exact⟨q+1,by omega,e⟩
def sR (f:Nat->Bool):Nat->Bool
 |0=>Z7
 |n+1=>f n&&sR f n
theorem J7:∀{n:Nat},sR f n=Z7->∀i,i<n->f i=Z7
 |n+1,h,i,hi=>by
  obtain⟨h1,h2⟩:=(ax _ _).mp h;by_cases e:i=n
  .rw[e];exact h1
  .exact J7 h2 i (by omega)
theorem Em (h:sR (λi=>yD m m i==2 ^ (m+1)-1) (m+1)=Z7)(hi:i<=m)(he:e<=m):∃q,q<=m/\kG m q i=e:=J6 (by rw[x5 (J7 h i (by omega)),Nat.testBit_two_pow_sub_one];exact xz (by omega))
theorem Sr (hm:z45 m)(hi:i<=m)(he:e<=m):∃q,q<=m/\kG m q i=e:=by
 rcases hm with rfl|rfl|rfl
 .exact Em (by decide+kernel) hi he
 .exact Em (by decide+kernel) hi he
 .exact Em (by decide+kernel) hi he
def runN (m:Nat)(b:Nat):Nat->Nat×Nat
 |0=>(b%(m+1),b)
 |k+1=>SetTable.leap m (runN m b k).1 (runN m b k).2
theorem Su (m b:Nat):∀k,(runN m b k).1<=m
 |0=>nc (ux _ (my _))
 |k+1=>nc (ux _ (my _))
theorem J8 (m b:Nat):∀k,(runN m b k).2=b/32 ^ k
 |0=>by show b=b/1;rw[Nat.div_one]
 |k+1=>by show(runN m b k).2/32=_;rw[J8 m b k,q9,v6]
theorem Sv {m b:Nat}(hb:b<2 ^ 64):∀q,(runN m b (12+q)).1=kG m q (runN m b 12).1:=by
 have one:∀k,12<=k->(runN m b (k+1)).1=J5 m (runN m b k).1:=λk hk=>by
  show((runN m b k).1*5+1+(runN m b k).2/32)%(m+1)=_;have:(runN m b k).2/32=0:=by rw[J8,q9,<-v6];refine Nat.div_eq_of_lt (b8 hb ?_);exact bo (show 2 ^ 64<=32 ^ 13 by decide) (tq (by decide) (by omega))
  rw[this];rfl
 have gen:∀q k,12<=k->(runN m b (k+q)).1=kG m q (runN m b k).1:=λq=>by
  induction q with
  |zero=>intro k _;rfl
  |succ q ih=>intro k hk;have:=ih (k+1) (by omega);rw[show k+1+q=k+(q+1) by omega]at this;rw[this,one k hk];rfl
 exact λq=>gen q 12 (ar _)
theorem Sx (h:Int):SetTable.bits h<2 ^ 64:=by unfold SetTable.bits;omega
theorem J9 (hm:z45 m)(h:Int)(he:e<=m):∃k,k<=m+12/\(runN m (SetTable.bits h) k).1=e:=by obtain⟨q,hq,eq⟩:=Sr hm (Su m (SetTable.bits h) 12) he;exact⟨12+q,by omega,by rw[Sv (Sx h),eq]⟩
section
variable {t:au}
def eZ (t:au):Nat->SetTable.Probe->SetTable.Probe
 |0,p=>p
 |k+1,p=>eZ t k (t.advance p)
theorem Sy (a b:Nat):∀p,eZ t (a+b) p=eZ t b (eZ t a p):=by
 induction a with
 |zero=>intro p;rw[ll];rfl
 |succ a ih=>intro p;rw[show a+1+b=(a+b)+1 by omega];exact ih _
def En (t:au)(b k:Nat):SetTable.Probe:={j:=(runN t.mask b k).1,more:=SetTable.runEnd t.mask (runN t.mask b k).1-(runN t.mask b k).1,i:=(runN t.mask b k).1,perturb:=(runN t.mask b k).2,dummy:=Z8}
theorem Sz:∀c p,p.more=c->eZ t (c+1) p={p with j:=(SetTable.leap t.mask p.i p.perturb).1,more:=SetTable.runEnd t.mask (SetTable.leap t.mask p.i p.perturb).1-(SetTable.leap t.mask p.i p.perturb).1,i:=(SetTable.leap t.mask p.i p.perturb).1,perturb:=(SetTable.leap t.mask p.i p.perturb).2}:=by
 intro c
 induction c with
 |zero=>intro p e;show t.advance p=_;unfold SetTable.advance;rw[xq (by omega)]
 |succ c ih=>
  intro p e;show eZ t (c+1) (t.advance p)=_;have ea:t.advance p={p with j:=p.j+1,more:=p.more-1}:=by unfold SetTable.advance;rw[xp (by omega)]
  rw[ea,ih _ (by show p.more-1=c;omega)]
theorem J' (h:Int):∀k,∃n,n<=10*k/\eZ t n (t.probeStart h)=En t (SetTable.bits h) k
 |0=>⟨0,ar _,rfl⟩
 |k+1=>by
  obtain⟨n,hn,e⟩:=J' h k;have hm:(En t (SetTable.bits h) k).more<=9:=by show SetTable.runEnd t.mask _-_<=9;unfold SetTable.runEnd;split<;>omega
  refine⟨n+((En t (SetTable.bits h) k).more+1),by omega,?_⟩;rw[Sy,e,Sz _ _ rfl];rfl
structure Tb (t:au)(n:Nat):Prop where
 ok:z45 t.mask
 rs:oX t
 sz:t.place.size=n
 le:∀(i v:Nat),t.place[i]?=Z9 v->v<=t.mask
theorem Eo (r:oX t)(j:Nat):t.slot j=.empty/\(∀i:Nat,t.place[i]?≠Z9 j)\/∃i,t.slot j=.live i/\t.place[i]?=Z9 j:=by
 unfold SetTable.slot;by_cases h:t.place[SetTable.below t.place j]?=Z9 j
 .exact .inr ⟨_,by rw[xp (beq_iff_eq.mpr h)],h⟩
 .refine .inl ⟨?_,λi hi=>?_⟩
  .rw[xq (by rw[beq_iff_eq];exact h),xq];unfold SetTable.has;rw[r.2];simp
  .obtain⟨h1,h2,h3⟩:=Ek r.1 j;rcases Nat.lt_trichotomy i (SetTable.below t.place j)with eB|heq|SA
   .exact absurd (h2 i eB _ hi) (cg _)
   .exact h (heq▸hi)
   .obtain⟨ha,qa⟩:=c6.mp hi;have g1:=h3 _ (ar _) _ (e8 (by omega));have:=lq.mp r.1 _ i (by grind) (by simpa using ha) SA;simp at this;omega
theorem Tb.room (T:Tb t n)(hn:n<=t.mask):∃e,e<=t.mask/\t.slot e=.empty:=by
 refine Classical.byContradiction λz=>?_
 have all:∀e,e<t.mask+1->∃i,t.place[i]?=Z9 e:=λe he=>by
  rcases Eo T.rs e with⟨a,_⟩|⟨i,_,h⟩
  .exact absurd ⟨e,by omega,a⟩ z
  .exact⟨i,h⟩
 have sub:cr (t.mask+1) ⊆ t.place.toList:=λe he=>by obtain⟨i,hi⟩:=all e (iy.mp he);exact dm.mpr ⟨i,by rw[d9];exact hi⟩
 have:=(List.nodup_range).length_le_of_subset sub;rw[gh,bq,T.sz]at this;omega
def Near (t:au)(k:Nat)(p:SetTable.Probe):Prop:=(p.dummy=Z8/\p.j+p.more<=t.mask)/\∃q,q<=k/\t.slot (eZ t q p).j=.empty
theorem Ka (h:i<=m):i+(SetTable.runEnd m i-i)<=m:=by unfold SetTable.runEnd;split<;>omega
theorem SD (h:p.j+p.more<=t.mask):(t.advance p).j+(t.advance p).more<=t.mask:=by
 unfold SetTable.advance;split
 .show p.j+1+(p.more-1)<=_;omega
 .exact Ka (nc (ux _ (my _)))
theorem SE (p:SetTable.Probe):(t.advance p).dummy=p.dummy:=by unfold SetTable.advance;split<;>rfl
theorem Tb.near (T:Tb t n)(hn:n<=t.mask)(h:Int):Near t (10*(t.mask+12)) (t.probeStart h):=by obtain⟨e,he,hs⟩:=T.room hn;obtain⟨k,hk,ek⟩:=J9 T.ok h he;obtain⟨q,hq,eq⟩:=J' h k;exact⟨⟨rfl,Ka (nc (ux _ (my _)))⟩,q,by omega,by rw[eq];show t.slot (runN t.mask _ k).1=_;rw[ek];exact hs⟩
theorem zhr (T:Tb t n)(hf:Nat->Int)(h:Int):∀fuel k p,Near t k p->k<fuel->
  (∃j,SetTable.probe.go t hf h fuel p=Z9 (.empty j Z8)/\t.slot j=.empty/\j<=t.mask)\/∃j i nx k',SetTable.probe.go t hf h fuel p=Z9 (.candidate j i nx)/\t.slot j=.live i/\t.place[i]?=Z9 j/\k'<k/\Near t k' nx:=by
 intro fuel
 induction fuel with
 |zero=>intro k p _ hk;omega
 |succ fuel ih=>
  intro k p hp hk;obtain⟨⟨hd,hj⟩,q,hq,hs⟩:=hp;unfold SetTable.probe.go;rcases Eo T.rs p.j with⟨a,_⟩|⟨i,a,b⟩
  .rw[a];exact .inl ⟨p.j,by rw[<-hd],a,by omega⟩
  .rw[a]
   dsimp only
   have nx:Near t (k-1) (t.advance p):=by
    cases q with
    |zero=>rw[show eZ t 0 p=p from rfl,a]at hs;cases hs
    |succ q=>exact⟨⟨by rw[SE,hd],SD hj⟩,q,by omega,hs⟩
   have kp:0<k:=by
    cases q with
    |zero=>rw[show eZ t 0 p=p from rfl,a]at hs;cases hs
    |succ q=>omega
   by_cases e:(hf i==h)=Z7
   .rw[xp e];exact .inr ⟨p.j,i,_,k-1,rfl,a,b,by omega,nx⟩
   .rw[xq e];rcases ih (k-1) _ nx (by omega)with z|⟨j,i',SF,k',z1,z2,z3,z4,z5⟩
    .exact .inl z
    .exact .inr ⟨j,i',SF,k',z1,z2,z3,by omega,z5⟩
end
theorem zl6 (hm:z45 m)(hz:ow.size=m+1)(he:e<=m)(hn:ow[e]?=Z9 Z8)(b:Nat):∀fuel k,(∃q,q<=fuel/\0<q/\(runN m b (k+q-1)).1=e)->
  ∃j,SetTable.layClean.free m ow fuel (runN m b k).1 (runN m b k).2=Z9 j/\ow[j]?=Z9 none:=by
 intro fuel
 induction fuel with
 |zero=>rintro k ⟨q,h1,h2,_⟩;omega
 |succ fuel ih=>
  rintro k ⟨q,h1,h2,h3⟩
  unfold SetTable.layClean.free
  have SG:∀j,(ow.getD j (Z9 0)).isNone=Z7->ow[j]?=Z9 none:=λj z=>by
   rw[cy]at z;cases x:ow[j]? with
   |none=>rw[x]at z;cases z
   |some y=>rw[x]at z;cases y with
    |none=>rfl
    |some y=>cases z
  cases f:(cr (SetTable.runEnd m (runN m b k).1+1-(runN m b k).1)).find? λk'=>(ow.getD ((runN m b k).1+k') (Z9 0)).isNone with
  |some k'=>exact⟨_,rfl,SG _ (by have:=List.find?_some f;exact this)⟩
  |none=>
   by_cases q1:q=1
   .subst q1;have h0:=List.find?_eq_none.mp f 0 (iy.mpr (by unfold SetTable.runEnd;split<;>omega));have:(runN m b k).1=e:=by rw[<-h3];rfl
    rw[Nat.add_zero,this,cy,hn]at h0;exact absurd rfl h0
   .exact ih (k+1) ⟨q-1,by omega,by omega,by rw[<-h3];congr 2;omega⟩
def fA (ow:List (Option Nat)):Nat:=ow.countP Option.isSome
structure Ow (m k:Nat)(ow:Array (Option Nat)):Prop where
 sz:ow.size=m+1
 lt:∀(j v:Nat),ow[j]?=Z9 (Z9 v)->v<k
 ct:fA ow.toList=k
theorem Kb:∀l j v,l[j]?=Z9 Z8->fA (l.set j (Z9 v))=fA l+1
 |x::l,0,v,h=>by cases h;show fA (Z9 v::l)=_;unfold fA;rw[iu];rfl
 |x::l,j+1,v,h=>by show fA (x::l.set j (Z9 v))=_;have:=Kb l j v h;unfold fA at this ⊢;rw[iu,iu];omega
theorem Ow.put (O:Ow m k ow)(h:ow[j]?=Z9 Z8):Ow m (k+1) (ow.setIfInBounds j (Z9 k)) where
 sz:=by rw[Array.size_setIfInBounds];exact O.sz
 lt:=λi v e=>by
  rw[Array.getElem?_setIfInBounds]at e;by_cases c:j=i
  .rw[xp c]at e;split at e
   .cases e;omega
   .cases e
  .rw[xq c]at e;have:=O.lt i v e;omega
 ct:=by rw[Array.toList_setIfInBounds,Kb _ _ _ (d9▸h),O.ct]
theorem Ow.room (O:Ow m k ow)(hk:k<=m):∃e,e<=m/\ow[e]?=Z9 none:=by
 refine Classical.byContradiction λz=>?_
 have:fA ow.toList=ow.toList.length:=List.countP_eq_length.mpr λx hx=>by
  obtain⟨i,hi⟩:=dm.mp hx;rw[d9]at hi;cases x with
  |some _=>rfl
  |none=>have:=(c6.mp hi).1;rw[O.sz]at this;exact absurd ⟨i,by omega,hi⟩ z
 rw[O.ct,bq,O.sz]at this;omega
theorem zjk (hm:z45 m):∀(hs:List Int) k ow,Ow m k ow->k+hs.length<=m+1->
  ∃AK,hs.foldl (λacc h=>do
   let(owner,k) <-acc
   let j <-SetTable.layClean.free m owner (SetTable.turns m) (SetTable.bits h%(m+1)) (SetTable.bits h)
   pure (owner.setIfInBounds j (Z9 k),k+1)) (Z9 (ow,k))=Z9 (AK,k+hs.length)/\Ow m (k+hs.length) AK
 | [],k,ow,O,_=>⟨ow,rfl,O⟩
 |h::hs,k,ow,O,hk=>by
  rw[a8]at hk;obtain⟨e,he,hn⟩:=O.room (by omega);obtain⟨q,hq,eq⟩:=J9 hm h he;obtain⟨j,ej,hj⟩:=zl6 hm O.sz he hn (SetTable.bits h) (SetTable.turns m) 0 ⟨q+1,by unfold SetTable.turns;omega,by omega,by rw[show 0+(q+1)-1=q by omega];exact eq⟩;obtain⟨AK,e',O'⟩:=zjk hm hs (k+1) _ (O.put hj) (by omega);refine⟨AK,?_,by rw[a8,show k+(hs.length+1)=k+1+hs.length by omega];exact O'⟩;rw[a8,show k+(hs.length+1)=k+1+hs.length by omega,<-e',kr]
  congr 1
  show(SetTable.layClean.free m ow (SetTable.turns m) (SetTable.bits h%(m+1)) (SetTable.bits h)>>=λj=>pure (ow.setIfInBounds j (Z9 k),k+1))=_;rw[show SetTable.layClean.free m ow (SetTable.turns m) (SetTable.bits h%(m+1)) (SetTable.bits h)=Z9 j from ej];rfl
theorem vF (ow:Array (Option Nat)):∀(n b:Nat),b+n=ow.size->((List.range' b n).filterMap λj=>(ow.getD j Z8).map (j,·)).length=fA (ow.toList.drop b)
 |0,b,e=>by rw[List.drop_eq_nil_of_le (by rw[bq];omega)];rfl
 |n+1,b,e=>by
  have hb:b<ow.toList.length:=by rw[bq];omega
  rw[List.range'_succ,ip hb];have ih:=vF ow n (b+1) (by omega);have eg:ow.getD b Z8=ow.toList[b]:=by rw[cy,e8 (by omega)];simp
  unfold fA;rw[iu,c8,eg];cases ow.toList[b]with
  |none=>exact ih
  |some v=>show _+1=_+1;rw[ih];rfl
theorem zkt (hm:z45 m)(hn:hs.size=n)(hl:n<=m)(f mv:Nat)(ld pl:Bool):
  ∃t' order,SetTable.laid m f mv ld pl hs=Z9 (t',order)/\t'.mask=m/\t'.led=ld/\t'.moves=mv/\t'.plain=pl/\Tb t' n/\order.size=n/\∀i∈order.toList,i<n:=by
 have O0:Ow m 0 (Array.replicate (m+1) Z8):={
  sz:=Array.size_replicate
  lt:=λj v e=>by obtain⟨h1,h2⟩:=c6.mp e;rw[Array.getElem_replicate]at h2;cases h2
  ct:=by exact List.countP_eq_zero.mpr λx hx=>by rw[List.eq_of_mem_replicate hx];decide}
 obtain⟨ow,e,O⟩:=zjk hm hs.toList 0 _ O0 (by grind);rw[ll,bq,hn]at e O;have el:SetTable.layClean m hs=Z9 ow:=by unfold SetTable.layClean;rw[<-Array.foldl_toList,e];rfl
 refine⟨_,_,by unfold SetTable.laid;rw[el];rfl,rfl,rfl,rfl,rfl,⟨hm,⟨?_,rfl⟩,?_,?_⟩,?_,?_⟩
 .show(lx (·.1) ((cr (m+1)).filterMap λj=>(ow.getD j Z8).map (j,·))).toArray.toList.Pairwise (· < ·);rw[ij];refine List.Pairwise.filterMap _ (λa b kU x hx y hy=>?_) (List.pairwise_lt_range);cases h1:ow.getD a Z8 with
  |none=>rw[h1]at hx;cases hx
  |some v=>
   cases h2:ow.getD b Z8 with
   |none=>rw[h2]at hy;cases hy
   |some w=>rw[h1]at hx;rw[h2]at hy;cases hx;cases hy;exact kU
 .rw[bn,af,jw,vF ow (m+1) 0 (by rw[O.sz];omega)];exact O.ct
 .intro i v h;rw[ky]at h;obtain⟨x,hx,rfl⟩:=a6.mp (bx h);obtain⟨j,hj,ej⟩:=fg.mp hx;have:=iy.mp hj;cases h2:ow.getD j Z8 with
  |none=>rw[h2]at ej;cases ej
  |some w=>rw[h2]at ej;cases ej;show j<=m;omega
 .rw[bn,af,jw,vF ow (m+1) 0 (by rw[O.sz];omega)];exact O.ct
 .intro i hi;obtain⟨x,hx,rfl⟩:=a6.mp hi;obtain⟨j,hj,ej⟩:=fg.mp hx;cases h2:ow.getD j Z8 with
  |none=>rw[h2]at ej;cases ej
  |some w=>
   rw[h2]at ej;cases ej;refine O.lt j w ?_;rw[cy]at h2;cases h3:ow[j]? with
   |none=>rw[h3]at h2;cases h2
   |some y=>rw[h3]at h2;simp_all
structure Ky (prog:b9)(w:World)(A:dh)(ok:Heap->Prop)(ad:Nat->Addr)(n:Nat):Prop where
 hash:∀i,i<n->∀(s:ao) (E:Value->ao->Prop) (Q:Int->ao->Prop),ok s.heap->(∀h tk,s.toks<=tk->Q h {s with toks:=tk})->wpAny (model prog w) A (pyHash (.ref (ad i))) Q E s
 eq:∀i j,i<n->j<n->i≠j->∀(s:ao) (E:Value->ao->Prop) (Q:Bool->ao->Prop),ok s.heap->Q Z6 s->wpAny (model prog w) A (eqBool (.ref (ad i)) (.ref (ad j))) Q E s
 qu:∀i,i<n->∀(s:ao) (E:Value->ao->Prop) (Q:Bool->ao->Prop),ok s.heap->Q Z7 s->wpAny (model prog w) A (wj 8 (.ref (ad i))) Q E s
 cl:∀i,i<n->∀(s:ao) (E:Value->ao->Prop) (Q:Bool->ao->Prop),ok s.heap->Q Z6 s->wpAny (model prog w) A (k9 8 (.ref (ad i))) Q E s
 bv:∀i,i<n->∀(s:ao) (E:Value->ao->Prop) (Q:Bool->ao->Prop),ok s.heap->(∀b,Q b s)->wpAny (model prog w) A (wt 8 (.ref (ad i))) Q E s
structure KSet (h:Heap)(S:Addr)(ad:Nat->Addr)(n:Nat)(es:Array (Int×Value))(ep:Nat)(t:au)(o:Obj):Prop where
 at_:h.get? S=Z9 o
 ex:o.ExactSet
 dt:o.data=.set es ep t
 el:∀e∈es.toList,∃j,j<n/\e.2=.ref (ad j)
 sz:es.size=n
 tb:Tb t n
 lo:n*5<t.mask*3
section
variable {prog:b9}{w:World}{A:dh}{E:Value->ao->Prop}{s:ao}{ok:Heap->Prop}{ad:Nat->Addr}{N n:Nat}{S:Addr}{es:Array (Int×Value)}{ep:Nat}{t:au}{o:Obj}
theorem KSet.fit (x:KSet h S ad n es ep t o):t.fits es.size=true:=by unfold SetTable.fits SetTable.fill;rw[x.tb.rs.2,x.tb.sz,x.sz];have:=x.lo;rw[ax,beq_iff_eq,decide_eq_true_iff];exact⟨rfl,by show n+0<=_;omega⟩
theorem seen (K:Ky prog w A ok ad N)(hk:ok s.heap)(hn:n<N)(q:Q Z6 s):∀(l:List Value),(∀y∈l,∃j,j<n/\y=.ref (ad j))->wpAny (model prog w) A (searchCouldBeSeen (.ref (ad n)) l) Q E s:=by
 intro l hl;apply aa;refine j7 _ (λrest r s'=>r.1=Z8/\s'=s/\∀y∈rest,∃j,j<n/\y=.ref (ad j)) _ ?_ ?_ _ _ ⟨rfl,rfl,hl⟩
 .rintro y rest r s' ⟨hr,rfl,hy⟩
  obtain⟨j,hj,rfl⟩:=hy y ah;have go:=λz hz=>hy z (av _ hz)
  dsimp only
  split
  .exact ae ⟨rfl,rfl,go⟩
  .apply aa;refine K.qu n hn _ _ _ hk ?_;apply aa;refine K.qu j (by omega) _ _ _ hk ?_;apply aa;refine K.cl n hn _ _ _ hk ?_;apply aa;refine K.cl j (by omega) _ _ _ hk ?_;exact ae ⟨rfl,rfl,go⟩
 .rintro⟨r1,r2⟩ s' ⟨hr,rfl,_⟩
  subst hr;exact ae q
theorem search (K:Ky prog w A ok ad N)(hk:ok s.heap)(hn:n<N)(x:KSet s.heap S ad n es ep t o)(h:Int){Q:SetFound->ao->Prop}(q:∀j,t.slot j=.empty->j<=t.mask->Q (.free j Z6) s):
  ∀(fuel k:Nat) (p:Option SetTable.Probe),Near t k (p.getD (t.probeStart h))->k<fuel->k<=10*(t.mask+12)->wpAny (model prog w) A (qb S (.ref (ad n)) h Z7 fuel p) Q E s:=by
 intro fuel
 induction fuel with
 |zero=>intro k p _ hf;omega
 |succ fuel ih=>
  intro k p np hf yE;unfold qb;apply aa;refine jv x.at_ x.dt x.fit ?_
  dsimp only
  have gw:t.gaveWay=false:=by unfold SetTable.gaveWay;rcases x.tb.ok with e|e|e<;>rw[e]<;>rfl
  rw[gw,xq (by decide)];generalize hP:t.probe _ h (p.getD (t.probeStart h))=P;have pr:(∃j,P=Z9 (.empty j Z8)/\t.slot j=.empty/\j<=t.mask)\/∃j i nx k',P=Z9 (.candidate j i nx)/\t.slot j=.live i/\t.place[i]?=Z9 j/\k'<k/\Near t k' nx:=by rw[<-hP];exact zhr x.tb _ h (10*SetTable.turns t.mask) k _ np (by unfold SetTable.turns;omega)
  rcases pr with⟨j,rfl,sl,hj⟩|⟨j,i,nx,k',rfl,sl,pl,kk,nn⟩
  .exact ae (q j sl hj)
  .dsimp only
   have hi:i<es.size:=by have:=(c6.mp pl).1;rw[x.tb.sz]at this;rw[x.sz];exact this
   have eg:es[i]?=Z9 es[i]:=e8 hi;obtain⟨m,hm,em⟩:=x.el es[i] (by rw[Array.mem_toList_iff];exact Array.getElem_mem hi)
   have rest:wpAny (model prog w) A (do
     let Z9 (_,y):=es[i]?|wu "internal:set-entry"
     let equal <-va [y] (eqBool y (.ref (ad n)))
     let(fX,_,t') <-setState S
     if Z7&&equal then return .there Z8
     let Z9 SH:=t'.sameMemory t.moves t.mask|wu "set.changed-during-lookup:is-the-new-block-at-the-old-address"
     let yF <- match(if SH then t'.slot j else .empty)with
      |.live i'=>match fX[i']? with
       |some (_,y')=>do pure (if <-isSame y' y then Z9 i' else Z8)
       |none=>pure Z8
      |_=>pure Z8
     match yF with
     |none=>rule "set.search.anew";qb S (.ref (ad n)) h Z7 fuel Z8
     |some i'=>if equal then return .there (Z9 i')else qb S (.ref (ad n)) h Z7 fuel (Z9 nx)) Q E s:=by
    rw[eg];generalize YH:es[i]=ei at em eg;obtain⟨hh,y⟩:=ei
    dsimp only at em ⊢
    subst em;apply aa;apply cq;refine K.eq m n (by omega) hn (by omega) _ _ _ hk ?_;apply aa;refine jv x.at_ x.dt x.fit ?_
    dsimp only
    rw[xq (by decide)];have sm:t.sameMemory t.moves t.mask=Z9 true:=by unfold SetTable.sameMemory;rw[xp (beq_self_eq_true _)]
    rw[sm]
    dsimp only
    rw[xp rfl,sl]
    dsimp only
    rw[eg]
    dsimp only
    apply aa;refine wpAny_isSame_ref_self ?_;apply aa;rw[xp rfl];refine ae ?_
    dsimp only
    rw[xq (by decide)];exact ih k' (Z9 nx) nn (by omega) (by omega)
   split
   .apply aa;refine seen K hk hn ?_ _ (λy hy=>?_)
    .rw[xq (by decide)];exact rest
    .obtain⟨e,he,rfl⟩:=a6.mp hy;rw[Array.toList_filter]at he;exact x.el e (ce.mp he).1
   .exact rest
theorem Ke {α:Type}(xs:Array α)(p:Nat)(x:α)(hp:p<=xs.size):(SetTable.insertAt xs p x).size=xs.size+1:=by rw[<-bq,El _ _ _ hp,am,a8,f8,jd,bq];omega
theorem Kg (hp:p<=xs.size)(h:y∈(SetTable.insertAt xs p x).toList):y=x\/y∈xs.toList:=by
 rw[El _ _ _ hp]at h;rcases cf.mp h with h|h
 .exact .inr (tj h)
 .rcases aw.mp h with h|h
  .exact .inl h
  .exact .inr (sy h)
theorem SI (T:Tb t n)(e:t.slot j=.empty)(hj:j<=t.mask):Tb (t.put j).1 (n+1)/\(t.put j).2<=t.place.size/\(t.put j).1.mask=t.mask:=by
 have no:∀i:Nat,t.place[i]?≠Z9 j:=by
  rcases Eo T.rs j with⟨_,h⟩|⟨i,h,_⟩
  .exact h
  .rw[e]at h;cases h
 have hb:=(Ek T.rs.1 j).1;refine⟨⟨T.ok,Sn T.rs no,?_,?_⟩,hb,rfl⟩
 .show(SetTable.insertAt t.place _ j).size=_;rw[Ke _ _ _ hb,T.sz]
 .intro i v h;have hm:=dm.mpr ⟨i,by rw[d9];exact h⟩;rcases Kg hb hm with rfl|hm
  .exact hj
  .obtain⟨i,hi⟩:=dm.mp hm;rw[d9]at hi;exact T.le i v hi
theorem zom (K:Ky prog w A ok ad N)(ko:∀h h',ok h->bu S h h'->ok h')(hk:ok s.heap)(hn:n<N)(h61:n<61)(x:KSet s.heap S ad n es ep t o)(h:Int){Q:Bool->ao->Prop}
  (fin:∀h' fX SJ t' o',bu S s.heap h'->KSet h' S ad (n+1) fX SJ t' o'->Q Z7 {s with heap:=h'}):wpAny (model prog w) A (q8 S (.ref (ad n)) h) Q E s:=by
 delta q8 setAddHashedIn
 apply cq;apply aa;refine jv x.at_ x.dt x.fit ?_
 dsimp only
 rw[show byScan (.ref (ad n)) es=Z6 from rfl,xq (by decide)];apply aa;have near:=x.tb.near (by have:=x.lo;omega) h;have mk:t.mask<=127:=by rcases x.tb.ok with e|e|e<;>omega
 unfold setSearch;refine search K hk hn x h (λj sl hj=>?_) 100000 _ Z8 near (by omega) (ar _)
 dsimp only
 apply aa;refine jv x.at_ x.dt x.fit ?_
 dsimp only
 obtain⟨T1,hp,AL⟩:=SI x.tb sl hj;generalize t.put j=pt at T1 hp AL;obtain⟨t1,p⟩:=pt
 dsimp only at T1 hp AL ⊢
 have sE:p<=es.size:=by rw[x.sz,<-x.tb.sz];exact hp
 have sS:(SetTable.insertAt es p (h,.ref (ad n))).size=n+1:=by rw[Ke _ _ _ sE,x.sz]
 have vD:∀e∈(SetTable.insertAt es p (h,ZV (ad n))).toList,∃j,j<n+1/\e.2=.ref (ad j):=λe he=>by
  rcases Kg sE he with rfl|he
  .exact⟨n,by omega,rfl⟩
  .obtain⟨j,hj,z⟩:=x.el e he;exact⟨j,by omega,z⟩
 have store:∀(t2:au),Tb t2 (n+1)->t2.mask=t.mask->wpAny (model prog w) A (do
   storeSet S (SetTable.insertAt es p (h,.ref (ad n))) t2
   if(!false&&t2.tooFull)=Z7 then do
      setRelay S (SetTable.grown (es.size+1))
      pure Z7
    else pure Z7) Q E s:=λt2 T2 m2=>by
  have gY:(SetTable.insertAt es p (h,ZV (ad n))).size<=bj:=p5 (by rw[sS];unfold j8;omega);generalize SetTable.insertAt es p (h,ZV (ad n))=es1 at sS vD gY;apply aa;refine m8 x.at_ x.dt ?_ gY;have g1:=J4 x.at_ x.dt es1 t2;have ft:t2.fits es1.size=true:=by unfold SetTable.fits SetTable.fill;rw[T2.rs.2,T2.sz,sS,ax,beq_iff_eq,decide_eq_true_iff];exact⟨rfl,by have:=x.lo;show n+1+0<=_;rw[m2];rcases x.tb.ok with e|e|e<;>omega⟩
  have tf:t2.tooFull=decide ((n+1)*5 ≥ t.mask*3):=by unfold SetTable.tooFull SetTable.fill;rw[T2.rs.2,T2.sz,m2];rfl
  rw[tf];by_cases full:(n+1)*5 ≥ t.mask*3
  .rw[xz full,xp (by decide)]
   have nm:∃m',z45 m'/\SetTable.sizeAbove (SetTable.grown (es.size+1))-1=m'/\SetTable.sizeAbove (SetTable.grown (es.size+1))<=bj/\n+1<=m'/\(n+1)*5<m'*3:=by
    have lo:=x.lo;rw[x.sz];rcases x.tb.ok with e|e|e
    .have :n=4:=by omega
     subst this;exact⟨31,.inr (.inl rfl),by decide,by decide,by decide,by decide⟩
    .have :n=18:=by omega
     subst this;exact⟨127,.inr (.inr rfl),by decide,by decide,by decide,by decide⟩
    .omega
   obtain⟨m',om,em,hs,le,lo⟩:=nm;apply aa;unfold setRelay;apply aa;refine jv (es:=es1) (ep:=ep+1) (t:=t2) g1 rfl ft ?_
   dsimp only
   rw[xq (by omega)];obtain⟨t3,order,el,SM,_,_,_,T3,os,ol⟩:=zkt om (hs:=es1.map (·.1)) (n:=n+1) (by rw[Array.size_map,sS]) le t2.finger (t2.movedTo (SetTable.sizeAbove (SetTable.grown (es.size+1))-1)) t2.led t2.plain;have er:t2.relaid (es1.map (·.1)) (SetTable.grown (es.size+1))=Z9 (t3,order):=by unfold SetTable.relaid;rw[em]at el ⊢;exact el
   rw[er];have fm:(order.filterMap (es1[·]?)).toList=order.toList.filterMap (es1[·]?):=Array.toList_filterMap
   have all:∀l:List Nat,(∀i∈l,i<n+1)->(l.filterMap (es1[·]?)).length=l.length:=λl=>by
    induction l with
    |nil=>intro _;rfl
    |cons i l ih=>
     intro hl;have hi:i<es1.size:=by rw[sS];exact hl i ah
     rw[c8,e8 hi];exact congrArg (· +1) (ih λj hj=>hl j (av _ hj))
   have Ep:(order.filterMap (es1[·]?)).size=n+1:=by rw[<-bq,fm,all _ ol,bq,os]
   have SN:∀e∈(order.filterMap (es1[·]?)).toList,∃j,j<n+1/\e.2=.ref (ad j):=λe he=>by rw[fm]at he;obtain⟨i,_,z⟩:=fg.mp he;exact vD e (dm.mpr ⟨i,by rw[d9];exact z⟩)
   change wpAny _ _ ((do
    if(order.filterMap (es1[·]?)).size != es1.size then wu "internal:set-table-lost-an-element"
    pure (order.filterMap (es1[·]?),t3))>>=_) _ _ _
   apply aa;rw[xq (by rw[Ep,sS];simp)];refine ae ?_
   dsimp only
   refine m8 g1 rfl ?_ (p5 (by rw[Ep];unfold j8;omega));refine ae (fin _ (order.filterMap (es1[·]?)) (ep+1+1) t3 {o with data:=.set (order.filterMap (es1[·]?)) (ep+1+1) t3} ((gg s.heap S _).trans (gg _ S _)) ?_);exact{at_:=J4 g1 rfl _ t3,ex:=x.ex,dt:=rfl,el:=SN,sz:=Ep,tb:=T3,lo:=by rw[SM];exact lo}
  .rw[x4 full,xq (by decide)];refine ae (fin _ es1 (ep+1) t2 {o with data:=.set es1 (ep+1) t2} (gg s.heap S _) ?_);exact{at_:=g1,ex:=x.ex,dt:=rfl,el:=vD,sz:=sS,tb:=T2,lo:=by rw[m2];omega}
 have oY:∀b:Bool,Tb (if b then t1 else{t1 with plain:=Z6}) (n+1)/\(if b then t1 else{t1 with plain:=Z6}).mask=t.mask:=λb=>by
  cases b
  .exact⟨⟨T1.ok,T1.rs,T1.sz,T1.le⟩,AL⟩
  .exact⟨T1,AL⟩
 split
 .apply aa;refine K.bv n hn _ _ _ hk λb=>?_;exact store _ (oY b).1 (oY b).2
 .apply aa;refine ae ?_;exact store _ (oY Z7).1 (oY Z7).2
theorem KSet.keep (x:KSet h S ad n es ep t o)(k:∀o,h.get? S=Z9 o->h'.get? S=Z9 o):KSet h' S ad n es ep t o:={x with at_:=k o x.at_}
end
section
variable {prog:b9}{w:World}{A:dh}{R:xo->ao->Prop}{I:Addr}{fp wr:List Addr}{Gn:Array qm->Array qm->Prop}{n:Nat}{P:Nat->Value->Prop}{St:Nat->ao->Prop}{ok:Heap->Prop}{ad:Nat->Addr}
theorem ze0 (W:WalksS prog w A.in1 I fp wr Gn n P St){S:Addr}(no:S∉fp)(K:Ky prog w A.in1 ok ad n)(ko:∀h h',ok h->(∀b o,b∉S::wr->h.get? b=Z9 o->h'.get? b=Z9 o)->ok h')(tx:∀i v,P i v->v=.ref (ad i))(room:n<=61):
  ∀k i s,i+k=n->St i s->ok s.heap->(∃es ep t o,KSet s.heap S ad i es ep t o)->
   (∀s',Moved (S::wr) Gn s s'->(∃es ep t o,KSet s'.heap S ad n es ep t o)->R (.ok (.ret .none)) s')->
   kz (model prog w) A (Code.builtin "set.update.loop" ⟨[ZV S,ZV I],[]⟩) R s:=by
 have now:=λz=>no (W.sub S z);intro k
 induction k with
 |zero=>intro i s e st hk set fin;cases e;refine dq PyProof.Rows.F.entry_set_update_loop ?_;apply aa;refine W.done s _ _ st λs1 mv=>?_;obtain⟨es,ep,t,o,x⟩:=set;exact ae (fin s1 (mv.mono λb z=>av S z) ⟨es,ep,t,o,x.keep λo=>mv.heap S o now⟩)
 |succ k ih=>
  intro i s e st hk set fin;refine dq PyProof.Rows.F.entry_set_update_loop ?_;apply aa;refine W.item i s _ _ (by omega) st λv s1 hv sO mv=>?_;obtain rfl:=tx i v hv;obtain⟨es,ep,t,o,x⟩:=set;have Er:=ko _ _ hk λb o hb z=>mv.heap b o (λy=>hb (av S y)) z;apply aa;apply cq
  delta setAdd
  apply cq;apply aa;refine K.hash i (by omega) _ _ _ Er λhv tk sT=>zom (s:={s1 with toks:=tk}) K (λh h' a b=>ko h h' a λc o hc z=>?_) Er (by omega) (by omega) (x.keep λo=>mv.heap S o now) hv λh2 oU SQ t2 o2 same x2=>?_
  .have cU:c≠S:=λz=>hc (z▸ah);exact(b.2 c cU).trans z
  refine ae ⟨kx PyProof.Rows.F.plain_set_update_loop _,ih (i+1) _ (by omega) (W.frame _ s1 _ _ sO sT λb hb o z=>?_) (ko _ _ Er λb o hb z=>?_) ⟨oU,SQ,t2,o2,x2⟩ λs3 Ee sP=>?_⟩
  .have cU:b≠S:=λz=>no (z▸hb);exact(same.2 b cU).trans z
  .have cU:b≠S:=λz=>hb (z▸ah);exact(same.2 b cU).trans z
  .refine fin s3 (Moved.trans W.gtrans ((mv.mono λb z=>av S z).then_heap sT λb o hb z=>?_) Ee) sP;exact(same.2 b (λz=>hb (z▸ah))).trans z
end
section
variable {prog:b9}{w:World}{A:dh}{E:Value->ao->Prop}{s:ao}{ok:Heap->Prop}{ad:Nat->Addr}
def z8k (ad:Nat->Addr)(n:Nat)(s:ao)(s':ao):Prop:=∃h' tk,s'={s with heap:=h',toks:=tk}/\(∃es ep t o,KSet h' s.heap.objs.size ad n es ep t o)/\∀b o,b<s.heap.objs.size->s.heap.get? b=Z9 o->h'.get? b=Z9 o
theorem zfe {l:Addr}{items:Array Value}(led:Bool)(hh:A.handled=Z8)(hl:s.heap.IsList l items)(K:Ky prog w A.in1.in1.in1 ok ad items.size)(ko:∀h',(∀b o,s.heap.get? b=Z9 o->h'.get? b=Z9 o)->ok h')(tx:∀(i:Nat) (v:Value),items[i]?=Z9 v->v=ZV (ad i))(hb:items.size<=61):
  wpAny (model prog w) A.in1.in1 (Builtin.«set.__init__» ⟨[.ref s.heap.objs.size,.ref l],[]⟩) (λfin s'=>fin=.done (.ret .none)/\z8k ad items.size s s') E {s with heap:=s.heap.push (nilI led)}:=by
 obtain⟨ol,oW,eO,nl,qO⟩:=hl;obtain⟨c0,d0,JZ,yC⟩:=ol;simp only at eO qO;subst eO qO;have low:l<s.heap.objs.size:=bh oW;have hS:(s.heap.push (nilI led)).get? s.heap.objs.size=Z9 (nilI led):=a7 _ rfl;have hT:Shared.TypeIs {s with heap:=s.heap.push (nilI led)} (.ref s.heap.objs.size) "set":=⟨_,hS,rfl⟩;have f0:(s.heap.push (nilI led)).get? l=Z9 {cls:=.type "list",dict:=d0,data:=.seq items nl,slots:=yC}:=ac _ oW;have f1:=PySem.F.sub_list_set;have f2:=PySem.F.sub_list_frozenset;have f3:(ZU "list"==ZU "dict")=false:=by decide
 have lst:(s.heap.push (nilI led)).IsList l items:=⟨_,f0,rfl,nl,rfl⟩
 delta Builtin.«set.__init__» xm kt
 generalize gp:qp=PI
 wp_walk
 subst gp;refine k8 lst ?_;apply aa;apply pi;have hA:A.in1.in1.in1.handled=none:=by simp only[Around.in1];exact hh
 have nI:l≠(s.heap.push (nilI led)).objs.size:=by rw[gk];exact br (gi low)
 have nS:s.heap.objs.size∉ [(s.heap.push (nilI led)).objs.size,l]:=by
  rw[gk];intro z;rcases aw.mp z with z|z
  .exact br (lh _) z
  .exact lg low (ay.mp z)
 let Kh:Heap->Prop:=λh'=>∀b o,s.heap.get? b=Z9 o->h'.get? b=Z9 o
 have K':Ky prog w A.in1.in1.in1 Kh ad items.size:={hash:=λi hi s E Q hk=>K.hash i hi s E Q (ko _ hk),eq:=λi j hi hj hn s E Q hk=>K.eq i j hi hj hn s E Q (ko _ hk),qu:=λi hi s E Q hk=>K.qu i hi s E Q (ko _ hk),cl:=λi hi s E Q hk=>K.cl i hi s E Q (ko _ hk),bv:=λi hi s E Q hk=>K.bv i hi s E Q (ko _ hk)};refine ze0 (ok:=Kh) (Walks.list hA _ l nI items).toS nS K' (λh h' a b c o z=>?_) tx hb items.size 0 _ (ll _) ⟨⟨_,a7 _ rfl,rfl,rfl⟩,lst.push _⟩ ?_ ?_ ?_
 .refine b c o (λy=>?_) (a c o z);have lt:=bh z;rcases aw.mp y with y|y
  .exact br lt y
  .have y:=ay.mp y;rw[gk]at y;exact br (gi lt) y
 .exact λb o z=>ac _ (ac _ z)
 .exact⟨#[],0,.fresh 0 0 led,nilI led,{at_:=ac _ hS,ex:=⟨rfl,rfl,rfl⟩,dt:=rfl,el:=λe he=>by simp at he,sz:=rfl,tb:=⟨.inl rfl,⟨.nil,rfl⟩,rfl,λi v e=>by simp[SetTable.fresh]at e⟩,lo:=show 0*5<7*3 by decide}⟩
 .intro s2 mv iM;obtain⟨h2,g2,d2,t2,o2⟩:=s2;have e1:g2=s.gens:=mv.gens;have e2:d2=s.drawn:=mv.drawn;have e3:o2=s.os:=mv.os;subst e1 e2 e3;show wpAny _ _ _ _ _ _;refine ae (ae ⟨rfl,h2,t2,rfl,iM,λb o lt z=>?_⟩);refine mv.heap b o (λz=>?_) (ac _ (ac _ z));rcases aw.mp z with z|z
  .exact br lt z
  .have z:=ay.mp z;rw[gk]at z;exact br (gi lt) z
end
section
variable {prog:b9}{w:World}{A:dh}{E:Value->ao->Prop}{s:ao}{ok:Heap->Prop}{ad:Nat->Addr}
theorem zdn {l:Addr}{items:Array Value}{Q:Value->ao->Prop}(hh:A.handled=Z8)(hl:s.heap.IsList l items)(K:Ky prog w A.in1.in1.in1 ok ad items.size)(ko:∀h',(∀b o,s.heap.get? b=Z9 o->h'.get? b=Z9 o)->ok h')(tx:∀(i:Nat) (v:Value),items[i]?=Z9 v->v=ZV (ad i))(hb:items.size<=61)
  (h:∀s',z8k ad items.size s s'->Q (.ref s.heap.objs.size) s'):wpAny (model prog w) A (call (.type "set") [.ref l]) Q E s:=by
 have ft:=PySem.F.called_set;obtain⟨c,tl,m1⟩:=ft.mro;have m2:=ft.made;have m3:=ft.sub;have m4:=ft.notType;have m5:=ft.canCreate;have m6:=PySem.F.typeCall_set_1 (.ref l);apply qq;apply l5;change wpAny _ _ (callAny (.type "set") _) _ _ _;refine ae ⟨Code.quiet_builtin _ (by decide+kernel),dq PySem.F.entry_type_call ?_⟩;rw[Around.under_plain (ny "set" [ZV l] []) rfl]
 repeat (any_goals first|assumption|wp_step)
 refine ja (So (.ref l) (E:=E) (Q1:=λobj s1=>∃led:Bool,obj=.ref s.heap.objs.size/\s1={s with heap:=s.heap.push (nilI led)}) ⟨_,rfl,rfl⟩) λr s1 hr=>?_;cases r with
 |error e=>exact hr
 |ok fl=>
  cases fl with
  |ret obj=>
   obtain⟨led,rfl,rfl⟩:=hr;have hT:Shared.TypeIs {s with heap:=s.heap.push (nilI led)} (.ref s.heap.objs.size) "set":=⟨_,a7 _ rfl,rfl⟩;have i1:=ft.init.lookup;have i2:=ft.init.bind (.ref s.heap.objs.size)
   repeat (any_goals first|assumption|wp_step)
   refine ja (jx (R:=wants (λr s2=>r=.none/\z8k ad items.size s s2) E) ft.init.plain PySem.F.entry_set_init (qo hT ?_)) λr2 s2 mD=>?_
   .refine jg (zfe (s:=s) (E:=E) led hh hl K ko tx hb) (λfin s3 z=>?_) (λe s3 z=>?_)
    .obtain⟨rfl,z⟩:=z;exact⟨rfl,z⟩
    .exact z
   .cases r2 with
    |error e=>exact mD
    |ok sQ=>
     cases sQ with
     |ret v=>
      obtain⟨rfl,z⟩:=mD
      repeat (any_goals first|assumption|wp_step)
      exact h _ z
     |_=>exact mD.elim
  |_=>exact hr.elim
end
def KV (n:Nat)(h:Heap)(v:Value):Prop:=∃d as,kd n d=Z7/\Reads h v d as
def LV (v:Value):Prop:=(∃i t,v=.int i t)\/∃x t,v=.str x t
theorem Ki (k:CN d=Z7)(r:Reads h v d as):LV v:=by
 cases r with
 |int i t=>exact .inl ⟨_,_,rfl⟩
 |str x t=>exact .inr ⟨_,_,rfl⟩
 |_=>cases k
theorem Kj:∀{vs:List Value} {xs:List ak} {as:List Addr},xs.all (kd n)=Z7->pd h vs xs as->∀u∈vs,KV n h u
 |_,_,_,_,.nil,_,hu=>by cases hu
 |_,_,_,k,.cons r rs,u,hu=>by
  rw[fq,ax]at k;rcases aw.mp hu with rfl|hu
  .exact⟨_,_,k.1,r⟩
  .exact Kj k.2 rs u hu
theorem KV.zero:KV 0 h v->LV v:=λ⟨_,_,k,r⟩=>Ki k r
theorem KV.succ:KV (n+1) h v->LV v\/∃a o vs m,v=.ref a/\h.get? a=Z9 o/\o.cls=.type "tuple"/\o.data=.seq vs m/\∀u∈vs.toList,KV n h u:=λ⟨d,as,k,r⟩=>by
 cases d with
 |tuple xs=>
  cases r with
  |tuple h1 h2 h3 h4=>exact .inr ⟨_,_,_,_,rfl,h1,h2,h3,Kj k h4⟩
 |_=>exact .inl (Ki (by simpa only[kd]using k) r)
section
variable {prog:b9}{w:World}{A:dh}{E:Value->ao->Prop}{s:ao}
theorem Kk (l:LV v)(q:∀h tk,s.toks<=tk->Q h {s with toks:=tk}):wpAny (model prog w) A (pyHash v) Q E s:=by
 rcases l with⟨i,t,rfl⟩|⟨x,t,rfl⟩
 .exact wpAny_pyHash_int (q _ _ (lc _))
 .exact wpAny_pyHash_str (q _ _ (lc _))
theorem Kl:∀(n:Nat) {A:dh} {E:Value->ao->Prop} {s:ao} {v:Value} {Q:Int->ao->Prop},KV n s.heap v->A.units+n<cLine->(∀h tk,s.toks<=tk->Q h {s with toks:=tk})->wpAny (model prog w) A (pyHash v) Q E s
 |0,A,E,s,v,Q,k,_,q=>Kk k.zero q
 |n+1,A,E,s,v,Q,k,hu,q=>by
  rcases k.succ with l|⟨a,o,vs,m,rfl,ho,hc,hd,all⟩
  .exact Kk l q
  have hT:s.TypeIs (.ref a) "tuple":=⟨o,ho,hc⟩
  delta pyHash pyHashByItsType
  apply aa;refine wpAny_cRoomFor_or (.inr (by omega)) ?_;apply aa;refine ot hT PySem.F.slot_tuple_hash.lookup ?_;apply aa;refine ot hT PySem.F.slot_tuple_hash.lookup ?_;apply aa;refine wpAny_callSpecialIfBoundUnlessNone?_slot hT PySem.F.slot_tuple_hash (f9 PySem.F.slot_tuple_hash hT PySem.F.entry_tuple_hash ?_ (PySem.F.args_tuple_hash_1 _));change wpAny _ _ (pc (.ref a)>>=_) _ _ s;apply aa;refine ph ho hd ?_;apply aa;rw[<-ma];refine j7 _ (λrest (b:Array Int) s'=>(∀u∈rest,KV n s.heap u)/\∃tk,s.toks<=tk/\s'={s with toks:=tk}) _ ?_ ?_ _ _ ⟨all,s.toks,ar _,rfl⟩
  .rintro u rest b s' ⟨hr,tk,sT,rfl⟩
   apply aa;refine Kl n (hr u ah) ?_ λh SR h2=>?_
   .show _<cLine;simp only[Around.in1];omega
   .exact ae ⟨λu hu=>hr u (av _ hu),SR,bo sT h2,rfl⟩
  .rintro b s' ⟨_,tk,sT,rfl⟩
   refine wpAny_ret_mkInt ?_;change wpAny _ _ (if(decide (-(2:Int) ^ 63<=pz b.toList)&&decide (pz b.toList<2 ^ 63))=Z7 then _ else _) Q E _;split
   .exact ae (q _ _ (bo sT (lc _)))
   .apply aa;exact jk (ae (q _ _ (bo sT (lc _))))
theorem Km (l:LV v)(n:Nat):wj n v=pure true:=by rcases l with⟨i,t,rfl⟩|⟨x,t,rfl⟩<;>exact eqIsQuiet_byValue n rfl
theorem Kn:∀(n d:Nat) {A:dh} {E:Value->ao->Prop} {s:ao} {v:Value} {Q:Bool->ao->Prop},n<=d->KV n s.heap v->Q Z7 s->wpAny (model prog w) A (wj d v) Q E s
 |0,d,A,E,s,v,Q,_,k,q=>by rw[Km k.zero];exact ae q
 |n+1,0,A,E,s,v,Q,hd,_,_=>by omega
 |n+1,d+1,A,E,s,v,Q,hle,k,q=>by
  rcases k.succ with l|⟨a,o,vs,m,rfl,ho,hc,hd,all⟩
  .rw[Km l];exact ae q
  have hT:s.TypeIs (.ref a) "tuple":=⟨o,ho,hc⟩;unfold wj;apply aa;refine ot hT PySem.F.slot_tuple_eq.lookup ?_;apply aa;refine ql hT se ?_;apply aa;refine fz ho hd ?_;apply aa;rw[<-ma];refine j7 _ (λrest r s'=>r.1=Z8/\s'=s/\∀u∈rest,KV n s.heap u) _ ?_ ?_ _ _ ⟨rfl,rfl,all⟩
  .rintro u rest r s' ⟨hr,rfl,hall⟩
   apply aa;refine Kn n d (by omega) (hall u ah) ?_;exact ae ⟨rfl,rfl,λz hz=>hall z (av _ hz)⟩
  .rintro⟨r1,r2⟩ s' ⟨hr,rfl,_⟩
   subst hr;exact ae q
theorem Kq (l:LV v)(n:Nat):k9 n v=pure false:=by rcases l with⟨i,t,rfl⟩|⟨x,t,rfl⟩<;>(unfold k9;rfl)
theorem Kr:∀(n d:Nat) {A:dh} {E:Value->ao->Prop} {s:ao} {v:Value} {Q:Bool->ao->Prop},n<=d->KV n s.heap v->Q Z6 s->wpAny (model prog w) A (k9 d v) Q E s
 |0,d,A,E,s,v,Q,_,k,q=>by rw[Kq k.zero];exact ae q
 |n+1,0,A,E,s,v,Q,hd,_,_=>by omega
 |n+1,d+1,A,E,s,v,Q,hle,k,q=>by
  rcases k.succ with l|⟨a,o,vs,m,rfl,ho,hc,hd,all⟩
  .rw[Kq l];exact ae q
  have hT:s.TypeIs (.ref a) "tuple":=⟨o,ho,hc⟩;unfold k9;apply aa;refine mw hT ?_;apply aa;refine ae ?_;apply aa;refine fz ho hd ?_;apply aa;rw[<-ma];refine j7 _ (λrest r s'=>r.1=Z8/\s'=s/\∀u∈rest,KV n s.heap u) _ ?_ ?_ _ _ ⟨rfl,rfl,all⟩
  .rintro u rest r s' ⟨hr,rfl,hall⟩
   apply aa;refine Kr n d (by omega) (hall u ah) ?_;exact ae ⟨rfl,rfl,λz hz=>hall z (av _ hz)⟩
  .rintro⟨r1,r2⟩ s' ⟨hr,rfl,_⟩
   subst hr;exact ae q
theorem Ks (l:LV v)(n:Nat):∃b,wt n v=pure b:=by rcases l with⟨i,t,rfl⟩|⟨x,t,rfl⟩<;>(cases n<;>exact⟨_,rfl⟩)
theorem Kt:∀(n d:Nat) {A:dh} {E:Value->ao->Prop} {s:ao} {v:Value} {Q:Bool->ao->Prop},n<=d->KV n s.heap v->(∀b,Q b s)->wpAny (model prog w) A (wt d v) Q E s
 |0,d,A,E,s,v,Q,_,k,q=>by obtain⟨b,e⟩:=Ks k.zero d;rw[e];exact ae (q b)
 |n+1,0,A,E,s,v,Q,hd,_,_=>by omega
 |n+1,d+1,A,E,s,v,Q,hle,k,q=>by
  rcases k.succ with l|⟨a,o,vs,m,rfl,ho,hc,hd,all⟩
  .obtain⟨b,e⟩:=Ks l (d+1);rw[e];exact ae (q b)
  have hT:s.TypeIs (.ref a) "tuple":=⟨o,ho,hc⟩;apply aa;refine ot hT PySem.F.slot_tuple_hash.lookup ?_;apply aa;refine fz ho hd ?_;apply aa;rw[<-ma];refine j7 _ (λrest r s'=>r.1=Z8/\s'=s/\∀u∈rest,KV n s.heap u) _ ?_ ?_ _ _ ⟨rfl,rfl,all⟩
  .rintro u rest r s' ⟨hr,rfl,hall⟩
   apply aa;refine Kt n d (by omega) (hall u ah) λb=>?_;cases b
   .rw[xp (by decide)];exact ae (ae (q _))
   .rw[xq (by decide)];exact ae ⟨rfl,rfl,λz hz=>hall z (av _ hz)⟩
  .rintro⟨r1,r2⟩ s' ⟨hr,rfl,_⟩
   subst hr;exact ae (q _)
theorem zgv {ad:Nat->Addr}{ds:Nat->ak}(hn:n<=8)(hu:A.units+9<cLine)(kk:∀i,i<N->kd n (ds i)=Z7)(cc:∀i,i<N->(ds i).canLay0=Z7/\(ds i).depth<=8)(ne:∀i j,i<N->j<N->i≠j->PyData.eqv (ds i) (ds j)=Z6):
  Ky prog w A (λh=>∀i,i<N->∃as,Reads h (.ref (ad i)) (ds i) as) ad N where
 hash:=λi hi s E Q hk q=>by obtain⟨as,r⟩:=hk i hi;exact Kl n ⟨_,_,kk i hi,r⟩ (by omega) q
 eq:=λi j hi hj qP s E Q hk q=>by obtain⟨as,r⟩:=hk i hi;obtain⟨bs,r2⟩:=hk j hj;have:=SeqAt.eqAt_reads (ds i) (ds j) A s _ _ _ _ r r2 (cc i hi).1 (cc j hj).1 (by have:=(cc i hi).2;omega);rw[ne i j hi hj qP]at this;exact this prog w E Q q
 qu:=λi hi s E Q hk q=>by obtain⟨as,r⟩:=hk i hi;exact Kn n 8 hn ⟨_,_,kk i hi,r⟩ q
 cl:=λi hi s E Q hk q=>by obtain⟨as,r⟩:=hk i hi;exact Kr n 8 hn ⟨_,_,kk i hi,r⟩ q
 bv:=λi hi s E Q hk q=>by obtain⟨as,r⟩:=hk i hi;exact Kt n 8 hn ⟨_,_,kk i hi,r⟩ q
end
theorem Ku:∀{xs:List D},jM xs=Z7->∀(i j:Nat) (x y:D),xs[i]?=Z9 x->xs[j]?=Z9 y->i≠j->aY x y=Z6
 |z::xs,h,i,j,x,y,hi,hj,ne=>by
  obtain⟨h1,h2⟩:=(ax _ _).mp h;have one:=λy hy=>by have:=a9.mp h1 y hy;rw[ax,g9,g9]at this;exact this
  cases i with
  |zero=>
   cases j with
   |zero=>exact absurd rfl ne
   |succ j=>cases hi;exact(one y (bx hj)).1
  |succ i=>
   cases j with
   |zero=>cases hj;exact(one x (bx hi)).2
   |succ j=>exact Ku h2 i j x y hi hj (by omega)
section
variable {X:Cx}{pins:List (Addr×Obj)}{σ:L2.St}{H:Hp}{s:ao}{B:Ad->Prop}
theorem Kv (I:Inv X pins σ H s):∀{ds:List D} {vs:List V} {its:List Value},(∀d∈ds,shal 8 d=Z7)->Vals vs its->Reps X.K H B vs ds->its.length=ds.length/\∀(i:Nat) v,its[i]?=Z9 v->∃d,ds[i]?=Z9 d/\(∃as,Reads s.heap v d as)/\d.canLay0=Z7/\d.depth<=8
 | [],vs,its,_,r,q=>by subst q;cases r;exact⟨rfl,λi v h=>by cases h⟩
 |d::ds,vs,its,sh,r,q=>by
  obtain⟨v,tl,rfl,q1,q2⟩:=q;cases r with
  |cons r1 r2=>
   obtain⟨h1,h2⟩:=Kv I (λd hd=>sh d (av _ hd)) r2 q2;refine⟨congrArg (· +1) h1,λi v h=>?_⟩;cases i with
   |zero=>cases h;exact⟨d,rfl,Rep.reads I d 8 (sh d ah) q1 r1⟩
   |succ i=>exact h2 i v h
def SK (p:Addr)(n:Nat):HO:=.ext λh=>∃ad es ep t o,KSet h p ad n es ep t o
def SS (X:Cx):List V->Hp->VK->Prop:=λxs H Q=>∃B x ds,xs=[x]/\Rep X.K H B x (.list ds)/\rS ds=Z7/\∀p,H p=Z8->Q (.ref p) (upd H p (SK p ds.length))
theorem SU (hc:X.calm=Z7)(hu:X.A.units+64<cLine):CallR X (.type "set") (SS X):=by
 intro pins s σ H xs us Q I r h;obtain⟨B,x,ds,rfl,rx,hp,q⟩:=h;obtain⟨h61,hp⟩:=(ax _ _).mp hp;obtain⟨AM,Es⟩:=(ax _ _).mp hp;have h61:=xv h61;obtain⟨a,vs,rfl,mU,rs⟩:=oO rx rfl;obtain⟨u,rfl,ru⟩:=vals1 r;cases ru;obtain⟨its,rv,pl,hz⟩:=I.list mU;have sh:=λd hd=>(ax _ _).mp (a9.mp AM d hd);obtain⟨len,rd⟩:=Kv I (λd hd=>(sh d hd).2) rv rs;have at_:∀i,i<its.length->∃v,its[i]?=Z9 v:=λi hi=>⟨_,ba hi⟩
 let ad:Nat->Addr:=λi=>match its[i]? with|some (.ref a)=>a|_=>0
 have Kw:∀(i:Nat) (v:Value),its[i]?=Z9 v->v=.ref (ad i):=λi v e=>by
  obtain⟨d,ed,⟨as,r⟩,_,_⟩:=rd i v e;have tb:=(sh d (bx ed)).1;cases d with
  |tuple xs=>
   cases r with
   |tuple _ _ _ _=>show _=ZV (match its[i]? with|some (.ref a)=>a|_=>0);rw[e]
  |_=>cases tb
 have AN:∀i,i<its.length->ds[i]?=Z9 (ds.getD i .none):=λi hi=>by rw[az,ba (by omega)];rfl
 have fact:∀i,i<its.length->(∃as,Reads s.heap (.ref (ad i)) (ds.getD i .none) as)/\(ds.getD i .none).canLay0=Z7/\(ds.getD i .none).depth<=8/\kd 8 (ds.getD i .none)=true:=λi hi=>by
  obtain⟨v,ev⟩:=at_ i hi;obtain⟨d,ed,r,c1,c2⟩:=rd i v ev;rw[AN i hi]at ed;have ed:=xr ed;rw[ed];have:=Kw i v ev;subst this;have tb:=(sh d (bx (by rw[AN i hi,ed]))).1;refine⟨r,c1,c2,?_⟩;cases d with
  |tuple xs=>exact tb
  |_=>cases tb
 have K:Ky X.prog X.w X.A.in1.in1.in1 (λh=>∀i,i<its.toArray.size->∃as,Reads h (.ref (ad i)) (ds.getD i .none) as) ad its.toArray.size:=by refine zgv (ar _) (by show X.A.units+1+1+1+9<cLine;omega) (λi hi=>(fact i hi).2.2.2) (λi hi=>⟨(fact i hi).2.1,(fact i hi).2.2.1⟩) (λi j hi hj ne=>?_);exact Ku Es i j _ _ (AN i hi) (AN j hj) ne
 refine zdn (I.ok.hd hc) pl.isList K (λh' kp i hi=>?_) (λi v e=>Kw i v (by rw[ky]at e;exact e)) (by rw[bn];omega) λs' out=>?_
 .obtain⟨⟨as,r⟩,_⟩:=fact i (by rw[bn]at hi;exact hi);exact⟨as,Reads.keeps kp r⟩
 .obtain⟨h',tk,rfl,⟨es,ep,t,o,ks⟩,kp⟩:=out;have Ej:=λb u e=>kp b u (bh e) e;have hH:=I.hok.fresh (ar _);have sl:its.toArray.size=ds.length:=len;rw[sl]at ks;have I2:=I.laid (o:=SK s.heap.objs.size ds.length) (t':=tk) Ej (ar _) ⟨⟨ad,es,ep,t,o,ks⟩,⟨o,ks.at_⟩,λh1 h2 x k=>by obtain⟨ad,es,ep,t,o,x⟩:=x;exact⟨ad,es,ep,t,o,x.keep k⟩⟩;exact⟨.ref s.heap.objs.size,_,I2,rfl,q _ hH⟩
theorem SV:CallR X (.builtin "len") (λxs H Q=>∃p n,xs=[.ref p]/\H p=Z9 (SK p n)/\Q (.int n) H):=by
 intro pins s σ H xs us Q I r h;obtain⟨p,n,rfl,hH,q⟩:=h;obtain⟨u,rfl,rx⟩:=vals1 r;cases rx;obtain⟨⟨ad,es,ep,t,o,x⟩,_⟩:=I.hok p _ hH
 have hf:(es.size:Int)<2 ^ 63:=by
  have:=x.lo;have h2:t.mask<=127:=by rcases x.tb.ok with e|e|e<;>omega
  rw[x.sz];omega
 exact call_len_set x.at_ x.ex x.dt x.fit hf ⟨.int n,H,I.tok _,⟨s.toks+1,by rw[x.sz]⟩,q⟩
theorem CallR.or {R2:List V->Hp->VK->Prop}(h1:CallR X f R1)(h2:CallR X f R2):CallR X f (λxs H Q=>R1 xs H Q\/R2 xs H Q):=by
 intro pins s σ H xs us Q I r h;rcases h with h|h
 .exact h1 _ _ _ _ _ _ _ I r h
 .exact h2 _ _ _ _ _ _ _ I r h
theorem zpu (hc:X.calm=Z7)(hu:X.A.units+64<cLine)(hm:X.mg x=Z8)(hv:c9 x=Z9 (.builtin "len"))(hg:Gl X x)(hn:x≠"__name__")(hdb:Y4 x)
  (yt:X.mg y=Z8) (SW:c9 y=Z9 (.type "set")) (Et:Gl X y) (nQ:y≠"__name__") (Eu:Y4 y) (hs:isStar e=Z6) (ha:PE X e (tD X.K fa)):
  PE X (.Call (.Name x p) [.Call (.Name y p') [e] [] pos'] [] pos) (tD X.K λρ=>fa ρ>>=λv=>uU v.2>>=λd=>.ok (.fr,d)):=
 PE.imp (xO (CallR.or Sl SV) hm hv (gL (CC (CallR.or (Sk hc) (SU hc hu)) yt SW (gL ha mM hs) (by simp[hs]) Et nQ Eu) mM rfl) rfl hg hn hdb) λσ H Q zz=>by
  obtain⟨ρ,F,z,so,e,q⟩:=zz;obtain⟨v,e1,e⟩:=Res.aA e;obtain⟨d,e2,e⟩:=Res.aA e;cases e
  have two:(∃ds,v.2=.list ds/\rS ds=Z7/\d=.int ds.length)\/J3 v.2=.ok d:=by
   generalize v.2=y at e2;cases y with
   |list xs=>
    change(if rS xs=Z7 then Res.ok (Z0 xs.length)else qB xs)=_ at e2;split at e2
    .rename_i hl;cases e2;exact .inl ⟨xs,rfl,hl,rfl⟩
    .exact .inr e2
   |tuple xs=>exact .inr e2
   |_=>cases e2
  rcases two with⟨ds,ev,hl,rfl⟩|e2
  .refine⟨ρ,F,v,so,e1,λu H1 s1 ru=>.inr ?_⟩;rw[ev]at ru;exact⟨_,u,ds,rfl,ru,hl,λp hp=>.inr ⟨p,ds.length,rfl,bQ,q _ _ (s1.trans (Same.upd hp)) rfl⟩⟩
  .obtain⟨ws,l,ev,nl,rfl⟩:=Sm e2;refine⟨ρ,F,v,so,e1,λu H1 s1 ru=>.inl ?_⟩;rw[ev]at ru;exact⟨_,u,ws,l,rfl,ru,nl,λok p hp=>.inl ⟨p,ws,rfl,bQ,q _ _ (s1.trans (Same.upd hp)) rfl⟩⟩
end
abbrev vG:List Value:=[.type "ValueError",.type "Exception",.type "BaseException",.type "object"]
abbrev yG (K:Z5)(C:Addr):Bool:=W.excIn K C vG "ValueError.__new__"
def kH (K:Z5)(C:Addr):Bool:=match K.lookup C with
 |some ⟨.type "type",_,.cls cd,sl⟩=>(match cd.mro,sl.toList with
  |.ref D::bm,[_,_,_,_,Z9 (.builtin n),_]=>(D==C)&&(n=="ValueError.__new__")&& !cd.hasDel&&W.tailIn K vG bm&&W.nsOkIn K cd.ns
  |_,_=>Z6)
 |_=>Z6
def XC (C:Addr)(h:Heap)(bm:List Value):Prop:=∃N nm q bs hdct sn sub ab col dd k0 k1 k2 k3 k5 mN,h.get? C=Z9 (excClassObj nm q C N bs bm hdct sn sub ab col dd k0 k1 k2 k3 k5 "ValueError.__new__")/\h.Ns N mN/\OwnTail h vG bm
def Ew (C:Addr)(h:Heap)(bm:List Value):Prop:=∃N nm q bs hdct sn sub ab col dd k0 k1 k2 k3 k5 mN,h.get? C=Z9 (excClassObj nm q C N bs bm hdct sn sub ab col dd k0 k1 k2 k3 k5 "ValueError.__new__")/\h.Ns N mN/\mN "__init__"=Z8/\OwnTail h vG bm
theorem yH:(a&&b)=Z7->a=Z7/\b=true:=b6.mp
theorem AO {K:Z5}{C:Addr}(q:yG K C=Z7):kH K C=Z7/\∀a cd sl,K.lookup C=Z9 ⟨.type "type",a,.cls cd,sl⟩->W.nsIn K cd.ns "__init__"=Z9 none:=by
 unfold yG W.excIn at q;unfold kH;split at q
 .rename_i a cd sl b;split at q
  .rename_i A bm h i j k n l hm hs;obtain⟨q,c⟩:=yH q;refine⟨?_,λd f g e=>by rw[b]at e;cases e;exact x5 c⟩;simp only[b,hm,hs];exact q
  .cases q
 .cases q
theorem Ex {K:Z5}{C:Addr}(q:kH K C=Z7):∃a cd bm h i j k l,K.lookup C=Z9 ⟨.type "type",a,.cls cd,#[h,i,j,k,Z9 (.builtin "ValueError.__new__"),l]⟩/\cd.mro=.ref C::bm/\cd.hasDel=Z6/\W.tailIn K vG bm=Z7/\W.nsOkIn K cd.ns=true:=by
 unfold kH at q;split at q
 .rename_i a cd sl m;split at q
  .rename_i A bm b c d e n f hm hs;obtain⟨q,o⟩:=yH q;obtain⟨q,p⟩:=yH q;obtain⟨q,g⟩:=yH q;obtain⟨r,s⟩:=yH q;have t:sl=#[b,c,d,e,Z9 (.builtin n),f]:=Array.toList_inj.mp (by rw[hs]);refine⟨a,cd,bm,b,c,d,e,f,?_,?_,?_,p,o⟩
   .rw[m,t,x5 s]
   .rw[hm,x5 r]
   .cases hd:cd.hasDel with
    |false=>rfl
    |true=>rw[hd]at g;cases g
  .cases q
 .cases q
theorem Kz {K:Z5}{C:Addr}(a:K.lookup C=Z9 ⟨.type "type",c,.cls cd,sl⟩)(hm:cd.mro=.ref C::bm)(e:Z4 K (.ref C) v=Z9 b):(ZV C::bm).contains v=b:=by
 have e:W.mroIn K C v=Z9 b:=e;unfold W.mroIn W.clsIn at e;rw[a]at e
 dsimp at e
 rw[hm]at e;exact xr e
theorem XC.mk {K:Z5}{C:Addr}(X:K.In h)(q:kH K C=Z7):∃bm,XC C h bm/\∀v b,Z4 K (.ref C) v=Z9 b->(ZV C::bm).contains v=b:=by
 obtain⟨d,cd,bm,f,g,i,j,k,a,hm,hd,l,m⟩:=Ex q;refine⟨bm,⟨cd.ns,cd.name,cd.qualname,cd.bases,cd.hasDict,cd.slotNames,cd.subclasses,cd.abstract,cd.collection,d,f,g,i,j,k,h.nsMap cd.ns,?_,.of_isNs (W.isNs_of_in X m),W.tail_of_in X l⟩,λv b e=>Kz a hm e⟩;have c:=X _ _ a;cases cd
 dsimp only at hm hd
 rw[hm,hd]at c;exact c
theorem Ew.mk {K:Z5}{C:Addr}(X:K.In h)(q:yG K C=Z7):∃bm,Ew C h bm:=by
 obtain⟨d,e⟩:=AO q;obtain⟨f,cd,bm,g,i,j,k,l,a,hm,hd,m,b⟩:=Ex d;refine⟨bm,cd.ns,cd.name,cd.qualname,cd.bases,cd.hasDict,cd.slotNames,cd.subclasses,cd.abstract,cd.collection,f,g,i,j,k,l,h.nsMap cd.ns,?_,.of_isNs (W.isNs_of_in X b),W.nsMap_none_of_in X b (e _ _ _ a),W.tail_of_in X m⟩;have c:=X _ _ a;cases cd
 dsimp only at hm hd
 rw[hm,hd]at c;exact c
section
variable {M:Model}{A:dh}{E:Value->ao->Prop}{h:Heap}{g:Array qm}{d:Drawn}{t:Nat}{os:p6}{C B e:Addr}{bm KA:List Value}{oe:Obj}{Q:Bool->ao->Prop}
theorem SX (T:OwnTail h vG l):l.contains (.type "BaseException")=true:=T.hasType rfl
theorem SY (i:XC C h bm)(j:XC B h KA)(k:h.get? e=Z9 oe)(l:oe.cls=.ref C)(a:(ZV C::bm).contains (.ref B)=Z7)(m:Q Z7 ⟨h,g,d,t,os⟩):wpAny M A (excMatches (.ref e) (.ref B)) Q E ⟨h,g,d,t,os⟩:=by
 obtain⟨_,_,_,_,_,_,_,_,_,_,_,_,_,_,_,_,n,_,_⟩:=i;obtain⟨_,_,_,_,_,_,_,_,_,_,_,_,_,_,_,_,c,_,tB⟩:=j;have b:(ZV B::KA).contains (.type "BaseException")=true:=by rw[uy,SX tB,lj]
 have f:=tc_notTuple
 repeat (first|(with_reducible refine la k ?_;rw[l])|with_reducible refine la c ?_|(with_reducible refine ub c ?_;rw[b])|(with_reducible refine ub n ?_;rw[a])|wp_step)
 exact m
end
section
variable {prog:b9}{w:World}{A:dh}{E:Value->ao->Prop}{K:Z5}{h:Heap}{g:Array qm}{d:Drawn}{t:Nat}{os:p6}{C e:Addr}{oe:Obj}
structure XA (K:Z5)(C:Addr):Prop where
 cl:W.findIn K (.ref C) "__class__"=Z9 (Z9 (.builtin "object.__class__"))
 ga:W.findIn K (.ref C) "__getattribute__"=Z9 (Z9 (.builtin "BaseException.__getattribute__"))
 gt:W.findIn K (.ref C) "__getattr__"=Z9 Z8
 ob:Z4 K (.ref C) (.type "object")=Z9 Z7
 be:Z4 K (.ref C) (.type "BaseException")=Z9 Z7
 ty:W.typeIn K (.ref C)=Z9 (.type "type")
 is:(W.clsIn K C).isSome=Z7
 ex:kH K C=Z7
theorem z77 (a:h.get? e=Z9 oe)(hc:oe.cls=.ref C):W.Looks M h (wf (.ref e)) (.ref C):=by intro A Q E s k q;refine aa (wpAny_loadPart (k _ _ a) ?_);rw[hc];exact ae q
theorem zz0 (X:K.In h)(a:XA K C)(b:h.get? e=Z9 oe)(hc:oe.cls=.ref C)(c:R (.ok (.ret (.ref C))) ⟨h,g,d,t,os⟩):
  kz (model prog w) A (.call (.builtin "getset_descriptor.__get__") ⟨[.builtin "object.__class__",.ref e,tp],[]⟩) R ⟨h,g,d,t,os⟩:=by
 have f:=z77 (M:=model prog w) b hc;have i:=W.looks_subIn (M:=model prog w) X a.ob;refine jx W.KF.slot_gs.plain W.KF.entry_gs (W.KF.slot_gs.check _ _ _ _ _ _ _ _ W.KF.type_class (W.KF.args_gs _ _ _) (aa (ae ?_)));unfold Builtin.Getset_descriptor.descrGetter Builtin.Getset_descriptor.descrCheckInstance Builtin.Getset_descriptor.descrNameAndClass xl;simp only[W.KF.owner_class]
 repeat lk
 refine⟨Code.quiet_builtin _ (by decide+kernel),?_⟩;refine dq W.KF.entry_class ?_;unfold Builtin.«object.__class__»;unfold shownTypeOf;repeat lk
 exact c
theorem znf (X:K.In h)(a:XA K C)(b:h.get? e=Z9 oe)(c:oe.cls=.ref C)(i:Q (.done (.ret (.ref C))) ⟨h,g,d,t,os⟩):
  wpAny (model prog w) A (Builtin.«object.__getattribute__» ⟨[.ref e,.str "__class__" j],[]⟩) Q E ⟨h,g,d,t,os⟩:=by
 have⟨f5,f6,f7⟩:=And.intro F.typeOf_object_class (And.intro F.slot_gs_get.lookup F.slot_gs_set.lookup);have f:=W.looks_findIn (M:=model prog w) X a.cl
 repeat (any_goals (first|assumption|(with_reducible refine la b ?_;rw[c])|with_reducible refine f.at ?_|wp_step))
 refine zz0 X a b c ?_
 repeat' first|assumption|wp_step
theorem x_call {b:Tok}{R:xo->ao->Prop}(X:K.In h)(a:XA K C)(c:h.get? e=Z9 oe)(f:oe.cls=.ref C)(i:R (.ok (.ret (.ref C))) ⟨h,g,d,t,os⟩):
  kz (model prog w) A (.call (.builtin "BaseException.__getattribute__") ⟨[.ref e,.str "__class__" b],[]⟩) R ⟨h,g,d,t,os⟩:=by
 refine jx F.excAttr_ValueError.ga.plain F.entry_bexc_ga ?_;have l1:=W.looks_subIn (M:=model prog w) X a.be;have l:=F.args_bexc_ga (.ref e) (.str "__class__" b);have j:builtinKind "BaseException.__getattribute__"=Z9 .slot:=by decide+kernel
 have k:splitId "BaseException.__getattribute__"=Z9 ("BaseException","__getattribute__"):=by decide+kernel
 simp only[checkBuiltinCall,j,k];refine aa ?_;unfold xl
 repeat (first|(with_reducible refine znf X a c f ?_;exact i)|(with_reducible refine la c ?_;rw[f])|with_reducible refine l1.at ?_|wp_step)
theorem x_by (X:K.In h)(a:XA K C)(b:h.get? e=Z9 oe)(hc:oe.cls=.ref C)(c:Q (.ref C) ⟨h,g,d,t,os⟩):
  wpAny (model prog w) A (getAttrBy (.ref e) (.str "__class__" f) Z6) Q E ⟨h,g,d,t,os⟩:=by
 have i:=F.excAttr_ValueError.ga.bind (.ref e)
 repeat (any_goals (first|assumption|(with_reducible refine la b ?_;rw[hc])|with_reducible refine(W.looks_findIn (M:=model prog w) X a.ga).at ?_|with_reducible refine(W.looks_findIn (M:=model prog w) X a.gt).at ?_|wp_step))
 refine x_call X a b hc ?_
 repeat' first|assumption|wp_step
theorem S0 (X:K.In h)(a:XA K C)(b:h.get? e=Z9 oe)(hc:oe.cls=.ref C)(c:Q (Z9 (.ref C)) ⟨h,g,d,t+1,os⟩):wpAny (model prog w) A (vv (.ref e) "__class__") Q E ⟨h,g,d,t,os⟩:=by repeat (any_goals (first|assumption|with_reducible apply x_by X a b hc|wp_step))
theorem S3 (q:kH K C=Z7)(e:Z4 K (.ref C) (.ref C)=Z9 b):b=true:=by obtain⟨c,cd,bm,d,f,g,h,i,a,hm,_⟩:=Ex q;rw[<-Kz a hm e,uy,beq_self_eq_true,mz]
structure XV (K:Z5)(v:Value):Prop where
 ty:∀(M:Model) (h:Heap),K.In h->W.Looks M h (wf v) (.type "type")
 is:∀(M:Model) (h:Heap),K.In h->W.Looks M h (isType v) Z7
theorem KC {D:Addr}(X:K.In h)(q:(W.clsIn K D).isSome=Z7):W.Looks M h (isType (.ref D)) true:=by
 unfold W.clsIn at q;split at q
 .rename_i a;intro A Q E s k z;refine aa (ut (k _ _ (X _ _ a)) ?_);exact ae z
 .cases q
theorem XV.own {D:Addr}(t:W.typeIn K (.ref D)=Z9 (.type "type"))(q:(W.clsIn K D).isSome=Z7):XV K (.ref D):=⟨λM h X=>W.looks_typeIn X t,λM h X=>KC X q⟩
theorem XV.val:XV K (.type "ValueError"):=⟨λM h X=>W.Looks.of_pure (by kernel_rfl),λM h X=>W.Looks.of_pure rfl⟩
theorem zy5 (X:K.In h)(a:XA K C)(c:h.get? e=Z9 oe)(hc:oe.cls=.ref C)(f:XV K v)(hs:Z4 K (.ref C) v=Z9 b)(i:Q (.done (.ret (.bool b))) ⟨h,g,d,t,os⟩)(l:Q (.done (.ret (.bool b))) ⟨h,g,d,t+1,os⟩):
  wpAny (model prog w) A (Builtin.«isinstance.nested» ⟨[.ref e,v,.int m o],[]⟩) Q E ⟨h,g,d,t,os⟩:=by
 have j:=z77 (M:=model prog w) c hc;have k:=W.looks_subIn (M:=model prog w) X hs;unfold Builtin.«isinstance.nested»;refine aa (j.at ?_);by_cases q:(ZV C==v)=true
 .rw[xp q];have n:b=true:=by cases x5 q;exact S3 a.ex hs
  subst n;exact aa (jk (aa (ae (ae i))))
 .rw[xq q];refine aa ((f.ty (model prog w) h X).at ?_)
  k_delta "plainIsInstance"
  refine aa (aa ((f.is (model prog w) h X).at ?_));refine aa ((j.andThen k).at ?_);cases b with
  |true=>exact ae (ae i)
  |false=>refine aa (S0 X a c hc ?_);refine aa ((KC (M:=model prog w) X a.is).at ?_);refine aa (jk ?_);exact k.at (ae l)
theorem zyl (X:K.In s.heap)(a:XA K C)(i:s.heap.get? e=Z9 oe)(hc:oe.cls=.ref C)(j:XV K v)(hs:Z4 K (.ref C) v=Z9 b)(k:∀f,Q (.bool b) {s with toks:=f}):
  wpAny (model prog w) A (call (.builtin "isinstance") [.ref e,v]) Q E s:=
 call_isinstance (S:=λ_ R s=>(K.In s.heap/\s.heap.get? e=Z9 oe)/\∀f,R (.ok (.ret (.bool b))) {s with toks:=f}) (λ_ _ _ _ s c=>isinstance_outer (by obtain⟨h,g,d,t,os⟩:=s;exact zy5 c.1.1 a c.1.2 hc j hs (c.2 t) (c.2 (t+1))) nofun) ⟨⟨X,i⟩,k⟩
end
theorem S4 (f:Array Value->Array Value)(o:Obj):(Obj.mapFields f o).dict=o.dict:=by unfold Obj.mapFields;split<;>rfl
def TrD (h base:Heap)(e:Addr)(cls:Value)(dd:Option Addr)(fl:Value):Prop:=∃ob vs T tr ts,h.get? e=Z9 ob/\ob.cls=cls/\ob.dict=dd/\ob.data=.fields vs/\vs[1]?=Z9 (.ref T)/\base.get? T=Z8/\T≠e/\h.get? T=Z9 tr/\tr.data=.fields ts/\ts[3]?=Z9 fl
def FlD (base:Heap)(l:List Env)(e:Addr)(cls:Value)(dd:Option Addr)(h:Heap):Prop:=base.StaysIn h/\base.get? e=Z8/\h.FunFrames base l/\TrD h base e cls dd .none
def KD (base:Heap)(l:List Env)(e:Addr)(cls:Value)(dd:Option Addr)(L:Addr)(h:Heap):Prop:=base.StaysIn h/\base.get? e=Z8/\h.FunFrames base l/\TrD h base e cls dd (n5 L)
theorem FlD.first (x:FlD base l e cls b h):∃ob a,h.get? e=Z9 ob/\ob.cls=cls/\ob.dict=b/\ob.data=.fields a:=by obtain⟨_,_,_,ob,a,_,_,_,c,d,f,g,_⟩:=x;exact⟨ob,a,c,d,f,g⟩
section
variable {M:Model}{A:dh}{E:Value->ao->Prop}{s:ao}{base:Heap}{env:Env}{outer l:List Env}{L e:Addr}{Q:Unit->ao->Prop}{cls:Value}{dd:Option Addr}
theorem zap (fr:A.frames=Z9 (env::outer))(ff:s.heap.FunFrames base (env::outer))(el:env.frame=Z9 L)(p:s.heap.get? e=Z9 ob)(st:base.StaysIn s.heap)(be:base.get? e=Z8)(da:ob.data=.fields f)(sz:1<f.size)
  (go:∀h,base.StaysIn h->h.FunFrames base (env::outer)->TrD h base e ob.cls ob.dict (n5 L)->s.heap.UpToSlots h->Q () {s with heap:=h}):
  wpAny M A (do
   let a <-frameOf env
   let pl <-entryPlaceOf L hn
   let b <-EntryCells.newEntry head a .none (n5 L) .none pl
   setField (.ref e) 1 b) Q E s:=by
 have r:e∉(env::outer).filterMap (·.frame):=λz=>by obtain⟨_,o,q,n⟩:=ff.mem z;rw[p]at q;cases q;exact n f da
 refine aa (wpAny_frameOf_fun fr ff el λd m=>aa (wpAny_entryPlaceOf λpl t=>?_));refine aa (ju ?_ (t.sizeOk5 _ _ _ _ _));have i:d.get? e=Z9 ob:=m.2.1 e r▸p;have j:base.StaysIn d:=λb o q=>by rw[m.2.1 b λz=>by rw[(ff.mem z).1]at q;cases q];exact st b o q
 generalize u:({cls:=.type "traceback",dict:=Z8,data:=.fields ([head,.ref L,.none,n5 L,.none]++(if pl.isEmpty then bp 6 Value.none else pl)).toArray}:Obj)=k;have l:=ac k i;have w:d.objs.size≠e:=λz=>absurd (bh i) (z▸cg _);refine m7 l da sz (go _ ?_ ?_ ?_ ?_)
 all_goals generalize y:(λv:Array Value=>v.setIfInBounds 1 (ZV d.objs.size))=g
 all_goals
  have x:=Obj.data_mapFields da g;have B:((d.push k).update e (Obj.mapFields g)).get? d.objs.size=Z9 k:=by rw[g8 _ _ (Ne.symm w)];exact a7 d (by rw[<-u];rfl)
  have keep:∀b o,b≠e->d.get? b=Z9 o->((d.push k).update e (Obj.mapFields g)).get? b=Z9 o:=λb o n q=>by rw[g8 _ _ (Ne.symm n)];exact ac _ q
  have c:∀b o,s.heap.get? b=Z9 o->(∀f,o.data≠.fields f)->b≠e:=λb o q n z=>by rw[z,p]at q;cases q;exact n f da
 .exact λb o q=>keep b o (λz=>by rw[z,be]at q;cases q) (j b o q)
 .refine ff.of_keeps λb o q n=>?_;obtain⟨sl,z⟩:=m.2.2 b o q;exact⟨_,keep b _ (c b o q n) z,rfl⟩
 .refine⟨_,_,d.objs.size,k,_,gj (Obj.mapFields g) l (Obj.isFreed_of_fields x),Obj.cls_mapFields _ _,S4 _ _,x,?_,j.fresh,w,B,by rw[<-u],?_⟩
  .rw[<-y];simp[sz]
  .first|(simp;done)|(rcases t with rfl|⟨_,_,_,_,_,_,_,rfl⟩<;>simp)
 .exact λb o q n=>by obtain⟨sl,z⟩:=m.2.2 b o q;exact⟨sl,keep b _ (c b o q n) z⟩
theorem zi9 (fr:A.frames=Z9 (env::outer))(ff:s.heap.FunFrames base (env::outer))(el:env.frame=Z9 L)(b:s.heap.get? e=Z9 ob)(st:base.StaysIn s.heap)(be:base.get? e=Z8)(da:ob.data=.fields d)(c:d[1]?=Z9 .none)
  (go:∀a,base.StaysIn a->a.FunFrames base (env::outer)->TrD a base e ob.cls ob.dict (n5 L)->s.heap.UpToSlots a->Q () {s with heap:=a}):wpAny M A (o8 (.ref e) env) Q E s:=by
 unfold o8;simp only[el];refine aa (d8 b da c ?_);exact zap fr ff el b st be da (c6.mp c).1 go
theorem zl4 (fr:A.frames=Z9 (env::outer))(ff:s.heap.FunFrames base (env::outer))(el:env.frame=Z9 L)(l:TrD s.heap base e cls dd .none)(st:base.StaysIn s.heap)(be:base.get? e=Z8)
  (go:∀d,base.StaysIn d->d.FunFrames base (env::outer)->TrD d base e cls dd (n5 L)->s.heap.UpToSlots d->Q () {s with heap:=d}):wpAny M A (o8 (.ref e) env) Q E s:=by
 obtain⟨ob,h,T,y,m,i,rfl,rfl,da,j,p,r,f,dT,k⟩:=l;unfold o8;simp only[el];refine aa (d8 i da j ?_);refine aa (d8 f dT k ?_);refine aa (m7 f dT (c6.mp k).1 ?_);generalize B:(λv:Array Value=>v.setIfInBounds 3 Value.none)=g;have c:∀b,b≠T->(s.heap.update T (Obj.mapFields g)).get? b=s.heap.get? b:=λb n=>g8 _ _ (Ne.symm n);have a:∀b o,s.heap.get? b=Z9 o->(∀h,o.data≠.fields h)->b≠T:=λb o q n z=>by rw[z,f]at q;cases q;exact n m dT
 refine zap fr (ff.of_keeps λb o q n=>⟨o,by rw[<-q];exact c b (a b o q n),rfl⟩) el ((c e (Ne.symm r)).trans i) (λb o q=>(c b λz=>by rw[z,p]at q;cases q).trans (st b o q)) be da (c6.mp j).1 λd t u w x=>go d t u w λb o q n=>x b o ((c b (a b o q n)).trans q) n
theorem zdw (st:base.StaysIn s.heap)(ff:s.heap.FunFrames base l)(r:TrD s.heap base e cls dd fl)
  (go:∀d,base.StaysIn d->d.FunFrames base l->TrD d base e cls dd .none->s.heap.UpToSlots d->Q () {s with heap:=d}):wpAny M A (t6 (.ref e) Z8) Q E s:=by
 obtain⟨ob,h,T,x,t,j,hc,hd,da,k,m,p,i,dT,u⟩:=r;have sz:=(c6.mp u).1;refine aa (d8 j da k ?_);refine m7 i dT sz ?_;generalize w:(λv:Array Value=>v.setIfInBounds 3 ((Z8:Option Addr).elim Value.none λf=>n5 f))=g;have c:∀b,b≠T->(s.heap.update T (Obj.mapFields g)).get? b=s.heap.get? b:=λb n=>g8 _ _ (Ne.symm n);have a:∀b o,s.heap.get? b=Z9 o->(∀h,o.data≠.fields h)->b≠T:=λb o q n z=>by rw[z,i]at q;cases q;exact n t dT
 refine go _ (λb o q=>(c b λz=>by rw[z,m]at q;cases q).trans (st b o q)) (ff.of_keeps λb o q n=>⟨o,(c b (a b o q n)).trans q,rfl⟩) ⟨ob,h,T,_,_,(c e (Ne.symm p)).trans j,hc,hd,da,k,m,p,gj _ i (Obj.isFreed_of_fields (Obj.data_mapFields dT _)),Obj.data_mapFields dT _,by rw[<-w];simp[sz]⟩ λb o q n=>⟨o.slots,(c b (a b o q n)).trans q⟩
theorem za3 (fr:A.frames=Z9 (env::outer))(el:env.frame=Z9 L)(fl:FlD base (env::outer) e cls dd s.heap)
  (go:∀a,KD base (env::outer) e cls dd L a->s.heap.UpToSlots a->Q () {s with heap:=a}):wpAny M A (o8 (.ref e) env) Q E s:=by
 obtain⟨c,b,d,f⟩:=fl;exact zl4 fr d el f c b λa g h i j=>go a ⟨g,b,h,i⟩ j
theorem KG (x:KD base l e cls dd L s.heap)(go:∀a,FlD base l e cls dd a->s.heap.UpToSlots a->Q () {s with heap:=a}):wpAny M A (t6 (.ref e) Z8) Q E s:=by obtain⟨b,c,d,f⟩:=x;exact zdw b d f λa g h i j=>go a ⟨g,c,h,i⟩ j
theorem S5 (x:FlD base l e cls dd s.heap)(go:∀a,FlD base l e cls dd a->s.heap.UpToSlots a->Q () {s with heap:=a}):wpAny M A (t6 (.ref e) Z8) Q E s:=by obtain⟨b,c,d,f⟩:=x;exact zdw b d f λa g h i j=>go a ⟨g,c,h,i⟩ j
theorem zi3 (fr:A.frames=Z9 (env::outer))(el:env.frame=Z9 L)(fl:FlD base (env::outer) e cls dd s.heap)
  (go:∀a,FlD base outer e cls dd a->s.heap.UpToSlots a->Q () {s with heap:=a}):wpAny M A (ve env (.ref e)) Q E s:=by
 refine aa (za3 fr el fl λl b c=>KG b λd f g=>?_);obtain⟨h,i,⟨_,_,j⟩,k⟩:=f;exact go d ⟨h,i,j,k⟩ (c.trans g)
theorem zdk (fr:A.frames=Z9 (env::outer))(ff:s.heap.FunFrames base (env::outer))(el:env.frame=Z9 L)(b:s.heap.get? e=Z9 ob)(st:base.StaysIn s.heap)(be:base.get? e=Z8)(da:ob.data=.fields c)(d:c[1]?=Z9 .none)
  (go:∀a,FlD base outer e ob.cls ob.dict a->s.heap.UpToSlots a->Q () {s with heap:=a}):wpAny M A (ve env (.ref e)) Q E s:=by
 refine aa (zi9 fr ff el b st be da d λp f g h i=>zdw f g h λj k l m n=>?_);obtain⟨_,_,o⟩:=l;exact go j ⟨k,be,o,m⟩ (i.trans n)
end
structure Fly (P:b9)(w:World)(base:Heap)(outer:List Env)(H:Hp)(s:ao)(C a:Addr)(H':Hp)(s':ao)(dd:Option Addr):Prop where
 os:s'.os=s.os
 bare:o5 s'.gens
 cN:∀b xs,H b=Z9 (.tup xs)->H' b=Z9 (.tup xs)
 bZ:∀b o u,H b=Z9 (.eU o u)->H' b=Z9 (.eU o u)
 cO:∀b ps,H b=Z9 (.lB ps)->∃more,H' b=Z9 (.lB (ps++more))
 free:∀b o,s.heap.get? b=Z9 o->H b=Z8->H' b=Z8
 hh:∃B,base.StaysIn B/\HOk P w H' B/\(∀b o,s.heap.get? b=Z9 o->b∉frs outer->∃o',B.get? b=Z9 o'/\(H b=Z8->o'=o))/\FlD B outer a (.ref C) dd s'.heap
 slot:∀b o,s.heap.get? b=Z9 o->H b=Z8->b∈frs outer->∃sl,s'.heap.get? b=Z9 {o with slots:=sl}
def AQ (P:b9)(w:World)(base:Heap):CXT:=λouter H s E e s'=>∃a C dd H',e=.ref a/\Fly P w base outer H s C a H' s' dd/\E (.ref C) dd H'
theorem KH (x:z16 P w H h a o):∃ob,h.get? a=Z9 ob:=by
 cases o with
 |lst xs=>obtain⟨_,_,_,_,e⟩:=x;exact⟨_,e⟩
 |tup xs=>obtain⟨_,_,_,_,e⟩:=x;exact⟨_,e⟩
 |dK kvs=>obtain⟨_,_,_,_,o,_,_,e,_⟩:=x;exact⟨_,e⟩
 |own y=>exact x
 |eU ob u=>exact⟨_,x.1⟩
 |lB ps=>exact⟨_,x⟩
 |ext φ=>exact x.2.1
section
variable {P:b9}{w:World}{base:Heap}{outer:List Env}{H H':Hp}{s s':ao}{C a:Addr}{dd:Option Addr}
theorem Fly.hok (f:Fly P w base outer H s C a H' s' dd):HOk P w H' s'.heap:=by obtain⟨B,_,b,_,fl⟩:=f.hh;exact b.kept fl.1
theorem Fly.un (f:Fly P w base outer H s C a H' s' dd):Un (frs outer) [] H H' s.heap s'.heap:=by
 obtain⟨B,_,l,d,fl⟩:=f.hh;refine⟨λb o e n c _=>?_,λb o e n c _=>f.slot b o e n c,λb o e n _=>f.free b o e n,λb o e _=>?_,f.cN,f.bZ,f.cO⟩
 .obtain⟨h,g,i⟩:=d b o e c;rw[i n]at g;exact fl.1 b o g
 .by_cases c:b∈frs outer
  .obtain⟨_,j,k,_⟩:=fl.2.2.1.mem c;exact⟨j,k⟩
  .obtain⟨h,g,_⟩:=d b o e c;exact⟨h,fl.1 b h g⟩
end
section
variable {X:Cx}{pins:List (Addr×Obj)}{σ:L2.St}{H H':Hp}{s s':ao}{C a:Addr}{dd:Option Addr}
theorem Fly.inv (f:Fly X.prog X.w X.base X.stack H s C a H' s' dd)(I:Inv X pins σ H s):Inv X pins σ H' s':=by obtain⟨c,g,d,t,o⟩:=s';obtain rfl:o=s.os:=f.os;exact I.call f.un f.hok f.bare λb z=>nomatch z
theorem Fly.leave {M:Model}{outer:List Env}{Q:Unit->ao->Prop}{E:Value->ao->Prop}(f:Fly X.prog X.w X.base X.stack H s C a H' s' dd)(I:Inv X pins σ H s)(hs:X.stack=X.env::X.outer)(hf:X.env.frame=Z9 X.env.locals)(hx:X.ex=[])
  (hQ:∀mO,Fly X.prog X.w X.base X.outer X.eV X.s₀ C a H' mO dd->Q () mO):wpAny M X.A (ve X.env (.ref a)) Q E s':=by
 obtain⟨B,hb,hB,AR,fl⟩:=f.hh;rw[hs]at fl;have yI:X.A.frames=Z9 (X.env::X.outer):=by rw[<-hs];exact I.ok.frames
 have u0:=I.base
 have Ey:∀b o,X.s₀.heap.get? b=Z9 o->b∉frs X.outer->b∉frs X.stack:=λb o e hn z=>by
  rw[hs]at z;unfold frs at z hn;rw[c8,hf]at z;rcases aw.mp z with z|z
  .exact absurd (bh e) (by rw[z];exact Nat.not_lt.mpr I.ok.above)
  .exact hn z
 have slot:∀h',s'.heap.UpToSlots h'->∀b o,X.s₀.heap.get? b=Z9 o->X.eV b=Z8->b∈frs X.outer->∃sl,h'.get? b=Z9 {o with slots:=sl}:=λh' up b o e n hn=>by
  have nx:b∉X.ex:=by rw[hx];simp
  obtain⟨sl,e1⟩:=I.base.slot b o e n hn nx;have hst:b∈frs X.stack:=by rw[hs];unfold frs;rw[c8,hf];exact av _ hn
  obtain⟨KI,e2⟩:=f.slot b _ e1 (I.base.free b o e n nx) hst;obtain⟨_,o3,e3,nd⟩:=I.ok.cP.mem hn;rw[e]at e3;cases e3;obtain⟨Ez,e4⟩:=up b _ e2 nd;exact⟨Ez,e4⟩
 refine zi3 yI hf fl λh' S6 up=>hQ _ ⟨f.os.trans I.os,f.bare,λb xs e=>f.cN b xs (u0.cN b xs e),λb o u e=>f.bZ b o u (u0.bZ b o u e),λb ps e=>?_,λb o e n=>?_,⟨B,hb,hB,λb o e hn=>?_,S6⟩,slot h' up⟩
 .obtain⟨m1,e1⟩:=u0.cO b ps e;obtain⟨m2,e2⟩:=f.cO b _ e1;exact⟨m1++m2,by rw[e2,uo]⟩
 .have nx:b∉X.ex:=by rw[hx];simp
  obtain⟨o',e'⟩:=I.base.there b o e nx;exact f.free b o' e' (I.base.free b o e n nx)
 .have nx:b∉X.ex:=by rw[hx];simp
  obtain⟨o1,e1⟩:=I.base.there b o e nx;obtain⟨o2,e2,e3⟩:=AR b o1 e1 (Ey b o e hn);refine⟨o2,e2,λn=>?_⟩;rw[e3 (I.base.free b o e n nx)];have:=I.base.keep b o e n hn nx;rw[this]at e1;cases e1;rfl
theorem S7 (x:HOk P w H h)(n:∀b∈l,H b=Z8):HOk P w H (W.hideAll h l):=λb o e=>by
 refine(x b o e).stay (λc u a q=>W.hideAll_get _ q λz=>?_) (λ_ q=>q) λ_ _ q=>q;rcases a with rfl|a
 .rw[n c z]at e;cases e
 .rw[n c z]at a;cases a
theorem zeh (I:Inv X pins σ H s)(h0:X.s₀.heap.get? a=Z8)(l:H a=Z8)(m:s.heap.get? a=Z9 ob)(hc:ob.cls=.ref C)(da:ob.data=.fields p)(r:p[1]?=Z9 .none)(hs:X.stack=X.env::X.outer)(hf:X.env.frame=Z9 X.env.locals)(t:X.ex=[])
  (u:∀f,Fly X.prog X.w X.base X.outer X.eV X.s₀ C a H f ob.dict->Q () f):wpAny M X.A (ve X.env (.ref a)) Q E s:=by
 have nx:∀b,b∉X.ex:=λb=>by rw[t];simp
 have g:=I.stack;rw[hs]at g
 have d:∀b∈a::frs (X.env::X.outer),H b=none:=λb h=>by
  rcases aw.mp h with rfl|h
  .exact l
  .exact I.fM b (hs▸h)
 have c:∀b o,X.s₀.heap.get? b=Z9 o->b∉frs X.outer->b∉a::frs (X.env::X.outer):=λb o e hn z=>by
  rcases aw.mp z with rfl|z
  .rw[h0]at e;cases e
  unfold frs at z hn;rw[c8,hf]at z;rcases aw.mp z with z|z
  .exact absurd (bh e) (z▸Nat.not_lt.mpr I.ok.above)
  .exact hn z
 refine zdk (base:=W.hideAll s.heap (a::frs (X.env::X.outer))) (hs▸I.ok.frames) (W.funFrames_hide g (λenv v b h=>av _ (fg.mpr ⟨env,v,h⟩))) hf m (λb o q=>W.of_hideAll _ q) (W.hideAll_none _ ah) da r λB fl up=>u _ ⟨I.os,I.bare,I.base.cN,I.base.bZ,I.base.cO,λb o e n=>I.base.free b o e n (nx b),⟨_,λb o e=>W.hideAll_get _ (I.bk b o e) (c b o (I.ok.bs b o e).1 (I.ok.wM e)),S7 I.hok d,λb o e hn=>?_,by rw[hc]at fl;exact fl⟩,λb o e n hn=>?_⟩
 .obtain⟨x,i⟩:=I.base.there b o e (nx b);refine⟨x,W.hideAll_get _ i (c b o e hn),λn=>?_⟩;rw[I.base.keep b o e n hn (nx b)]at i;cases i;rfl
 obtain⟨sl,i⟩:=I.base.slot b o e n hn (nx b);obtain⟨_,D,k,nd⟩:=I.ok.cP.mem hn;rw[e]at k;cases k;obtain⟨j,y⟩:=up b _ i nd;exact⟨j,y⟩
theorem zbz (I:Inv X pins σ H s)(hm:Heap.MadeExcOf s.heap h1 a (.ref C) args)(hs:X.stack=X.env::X.outer)(hf:X.env.frame=Z9 X.env.locals)(hx:X.ex=[])
  (hQ:∀mO,Fly X.prog X.w X.base X.outer X.eV X.s₀ C a H mO Z8->Q () mO):wpAny M X.A (ve X.env (.ref a)) Q E {s with heap:=h1}:=by
 obtain⟨t,he,_,_⟩:=hm.there
 have h0:X.s₀.heap.get? a=none:=by
  cases e:X.s₀.heap.get? a with
  |none=>rfl
  |some o=>obtain⟨o',e'⟩:=I.base.there a o e (by rw[hx];simp);rw[hm.new]at e';cases e'
 have hH:H a=none:=by
  cases e:H a with
  |none=>rfl
  |some o=>obtain⟨ob,q⟩:=KH (I.hok a o e);rw[hm.new]at q;cases q
 exact zeh (I.kept hm.keeps) h0 hH he rfl rfl rfl hs hf hx hQ
end
structure Lv (X:Cx)(H0:Hp)(c:Str):Prop where
 made:∀pins σ H s a C args h',Inv X pins σ H s->X.mg c=Z9 (.ref C)->Same H0 H->Heap.MadeExcOf s.heap h' a (.ref C) args->X.xe (.ref a) {s with heap:=h'}
 KJ:∀pins σ H s a C H' s',Inv X pins σ H s->X.mg c=Z9 (.ref C)->Same H0 H'->Fly X.prog X.w X.base X.stack H s C a H' s' Z8->X.xe (.ref a) s'
theorem Lv.mono (l:Lv X H0 c)(h:Same H0 H1):Lv X H1 c:=⟨λpins σ H s a C args h' I m z=>l.made pins σ H s a C args h' I m (h.trans z),λpins σ H s a C H' s' I m z=>l.KJ pins σ H s a C H' s' I m (h.trans z)⟩
def Rz (X:Cx)(f:Rho->Option Str)(σ:L2.St)(H:Hp):Prop:=∃ρ F c,StOk X.K F H σ ρ/\f ρ=Z9 c/\Lv X F.H0 c
def tR (X:Cx)(f:Rho->Option Str):TE:=λσ H _=>Rz X f σ H
def vH (X:Cx)(f:Rho->Option Str):TT:=λσ H _=>Rz X f σ H
def tRA (X:Cx)(f:Rho->Option Str):TA:=λσ H _=>Rz X f σ H
def tRS (X:Cx)(f:Rho->Option Str):TS:=λ_ σ H=>Rz X f σ H
def AS (K:Z5)(mg:Str->Option Value)(n:Nat)(m:Fn):Sp:=λvs H _ E=>∃A ds c,vs.length=n/\Reps K H A vs ds/\excOf (m ds)=Z9 c/\∀C H',mg c=Z9 (.ref C)->Same H H'->E (.ref C) Z8 H'
def CalX (P:b9)(w:World)(K:Z5)(mg:Str->Option Value)(base:Heap)(k:Nat)(x:Str)(ps:List Str)(n:Nat)(m:Fn):Prop:=∃f fd,FnOk P w K mg base (AQ P w base) k f fd ps (AS K mg n m)/\mg x=Z9 (.ref f)/\W.keepIn K (.ref f)=Z7/\Binds K fd ps []
section
variable {X:Cx}{e:Expr}{es:List Expr}{pos:Pos}
theorem yJ (h:∀ρ,f ρ=Z8)(σ:L2.St)(H:Hp):¬Rz X f σ H:=λ⟨ρ,F,c,_,e,_⟩=>by rw[h ρ]at e;cases e
theorem z57 (Cc:CalX X.prog X.w X.K X.mg X.base k x ps n m)(hr:Room k' X.A)(hk:k<=k')(ha:PA X (e::es) (tDA X.K fs))(hst:((e::es).all fun e=> !isStar e)=Z7)(hg:Gl X x)(hdb:Y4 x)
  (hl:∀ρ ys,fs ρ=.ok ys->ys.length=n) (I:Inv X pins σ H s) (so:StOk X.K F H σ ρ) (e2:fs ρ=.ok ys) (e3:excOf (m (ys.map (·.2)))=Z9 c)
  (hE:∀H1 s1 C a H' s',Inv X pins σ H1 s1->Same H H1->X.mg c=Z9 (.ref C)->Same H1 H'->Fly X.prog X.w X.base X.stack H1 s1 C a H' s' Z8->X.xe (.ref a) s'):wpAny (model X.prog X.w) X.A (eval (.Call (.Name x p) (e::es) [] pos) X.env) (λ_ _=>False) X.xe s:=by
 obtain⟨f,fd,Fo,hm,kp,b⟩:=Cc;rw[fq,ax]at hst;refine jh (z3l I hg hm ?_ hdb);refine W.callWith_K I.ok.mod.uK kp (aN (ha pos pins s σ H (λvs H1=>Same H H1/\eG X.K F H H1 vs ys) I ⟨ρ,F,ys,so,e2,λvs H1 s1 rg=>⟨s1,rg⟩⟩) λus s1 zz=>?_) (gK (by simpa using hst.1)) (nU hst.2);obtain⟨vs,H1,I1,r,z1,rg⟩:=zz;refine⟨I1.eN,?_⟩;have kW:AS X.K X.mg n m vs H1 (λ_ _=>False) (λv dd H'=>dd=Z8/\X.mg c=Z9 v/\Same H1 H'):=⟨_,_,c,by rw[rg.len];exact hl ρ ys e2,rg.gS so.aM,e3,λC H' hC sm=>⟨rfl,hC,sm⟩⟩;have hlen:us.length=ps.length:=by rw[<-r.length];exact Fo.len _ _ _ _ kW
 have hb:=b s1 us I1.eN (by rw[dg];exact hlen);rw[dg]at hb;refine qq (ja (Fo.run X.A X.stack s1 H1 ⟨us,[]⟩ us vs _ _ (hr.mono hk) I1.xB hb r kW) λrr s' hq=>?_);cases rr with
 |error e'=>obtain⟨a,C,dd,H',rfl,fl,rfl,q1,q2⟩:=hq;exact hE H1 s1 C a H' s' I1 z1 q1 q2 fl
 |ok fl=>
  cases fl with
  |ret u=>obtain⟨_,_,_,_,_,_,_,z⟩:=hq;exact z.elim
  |next=>exact hq.elim
  |brk=>exact hq.elim
  |cont=>exact hq.elim
theorem zmo (Cc:CalX X.prog X.w X.K X.mg X.base k x ps n m)(hr:Room k' X.A)(hk:k<=k')(ha:PA X (e::es) (tDA X.K fs))(hx:PA X (e::es) (tRA X fx))(hst:((e::es).all fun e=> !isStar e)=Z7)(hg:Gl X x)(hdb:Y4 x)
  (hl:∀ρ ys,fs ρ=.ok ys->ys.length=n):PE X (.Call (.Name x p) (e::es) [] pos) (tR X λρ=>match fs ρ with|.ok ys=>excOf (m (ys.map (·.2)))|_=>fx ρ):=by
 intro pins s σ H Q I hq;obtain⟨ρ,F,c,so,e1,lv⟩:=hq;have e1:(match fs ρ with|.ok ys=>excOf (m (ys.map (·.2)))|_=>fx ρ)=Z9 c:=e1
 have raw:(∃ys,fs ρ=.ok ys/\excOf (m (ys.map (·.2)))=Z9 c)\/fx ρ=Z9 c:=by
  cases e2:fs ρ with
  |ok ys=>rw[e2]at e1;exact .inl ⟨ys,rfl,e1⟩
  |exc z=>rw[e2]at e1;exact .inr e1
  |no=>rw[e2]at e1;exact .inr e1
 rcases raw with⟨ys,e2,e3⟩|e2
 .exact aN (z57 Cc hr hk ha hst hg hdb hl I so e2 e3 λH1 s1 C a H' s' I1 z1 q1 sm fl=>lv.KJ pins σ H1 s1 a C H' s' I1 q1 (Same.trans so.ext (z1.trans sm)) fl) λ_ _ z=>z.elim
 .obtain⟨f,fd,Fo,hm,kp,b⟩:=Cc;rw[fq,ax]at hst;refine jh (z3l I hg hm ?_ hdb);refine W.callWith_K I.ok.mod.uK kp (aN (hx pos pins s σ H (λ_ _=>False) I ⟨ρ,F,c,so,e2,lv⟩) λus s1 q=>?_) (gK (by simpa using hst.1)) (nU hst.2);obtain⟨vs,H1,I1,r,q⟩:=q;exact q.elim
theorem S8 (hs:isStar e=Z6)(ha:PE X e (tD X.K fa))(hx:PE X e (tR X fx))(hr:PA X es (tRA X fr)):PA X (e::es) (tRA X λρ=>match fa ρ with|.ok _=>fr ρ|_=>fx ρ):=by
 intro pos pins s σ H Q I hq;obtain⟨ρ,F,c,so,e1,lv⟩:=hq;have e1:(match fa ρ with|.ok _=>fr ρ|_=>fx ρ)=Z9 c:=e1
 have raw:(∃y,fa ρ=.ok y/\fr ρ=Z9 c)\/fx ρ=Z9 c:=by
  cases e2:fa ρ with
  |ok ys=>rw[e2]at e1;exact .inl ⟨ys,rfl,e1⟩
  |exc z=>rw[e2]at e1;exact .inr e1
  |no=>rw[e2]at e1;exact .inr e1
 rw[gK hs];rcases raw with⟨y,e2,e3⟩|e2
 .refine pb (aN (ha pins s σ H (λv H1=>Same H H1) I ⟨ρ,F,y,so,e2,λv H1 s1 _=>s1⟩) λu s1 zz=>?_);obtain⟨v,H1,I1,r1,q1⟩:=zz;exact aN (hr pos pins s1 σ H1 (λ_ _=>False) I1 ⟨ρ,F,c,so.same q1,e3,lv⟩) λus s2 zz=>by obtain⟨_,_,_,_,z⟩:=zz;exact z.elim
 .exact pb (aN (hx pins s σ H (λ_ _=>False) I ⟨ρ,F,c,so,e2,lv⟩) λu s1 zz=>by obtain⟨_,_,_,_,z⟩:=zz;exact z.elim)
theorem S9 (ha:PT X a (vH X f)):PT X (.UnaryOp .Not a pos) (vH X f):=PT.imp (Hr ha) λσ H Q z=>z
theorem S' (ha:PE X e (tR X f))(he:∀whole,sj e X.env whole=(do let v <-whole;wx e.pos;va [v] (w4 v))):PT X e (vH X f):=PT.imp (NN ha he) λσ H Q z=>z
theorem Ta (hs:z2a e=Z6)(ha:PE X e (tR X f)):PS X (.Expr e pos) (tRS X f):=PS.imp (nV ha hs) λD σ H z=>z
theorem Tc {i:Nat}(hN:X.N.Nodup)(hi:X.N[i]?=Z9 x)(hx:Loc X.env.scope x)(hf:X.fn x=Z7\/X.env.scope.names.lookup x=Z9 .local)(hs:z2a e=Z6)(ha:PE X e (tR X f)):PS X (.Assign [.Name x px] e pos) (tRS X f):=PS.imp (xP hN hi hx ha hs hf) λD σ H z=>z
theorem Td (ha:PE X e (tR X f)):PS X (.Return (Z9 e) pos) (tRS X f):=PS.imp (zX ha) λD σ H z=>z
theorem Te (hc:PT X c (eA X.K ft))(hx:PT X c (vH X fx))(ha:PSs X A (tRS X fa))(hb:PSs X B (tRS X fb)):PS X (.If c A B pos) (tRS X λρ=>match ft ρ with|.ok k=>if k then fa ρ else fb ρ|_=>fx ρ):=by
 intro pins s σ H D I hq;obtain⟨ρ,F,cl,so,e1,lv⟩:=hq;have e1:(match ft ρ with|.ok k=>if k then fa ρ else fb ρ|_=>fx ρ)=Z9 cl:=e1
 have raw:(∃k,ft ρ=.ok k/\(if k then fa ρ else fb ρ)=Z9 cl)\/fx ρ=Z9 cl:=by
  cases e2:ft ρ with
  |ok ys=>rw[e2]at e1;exact .inl ⟨ys,rfl,e1⟩
  |exc z=>rw[e2]at e1;exact .inr e1
  |no=>rw[e2]at e1;exact .inr e1
 rcases raw with⟨k,e2,e3⟩|e2
 .refine Hw hc ha hb pins s σ H D I ⟨ρ,F,k,so,e2,λH1 s1=>?_⟩;cases k with
  |true=>exact gI ⟨ρ,F,cl,so.same s1,e3,lv⟩
  |false=>exact gH ⟨ρ,F,cl,so.same s1,e3,lv⟩
 .exact wpAny_If (aN (hx pins s σ H (λ_ _=>False) I ⟨ρ,F,cl,so,e2,lv⟩) λd s1 zz=>by obtain⟨_,_,z⟩:=zz;exact z.elim)
theorem Tf {st:Stmt}{rest:List Stmt}(h1:PS X st (tDS X.K fs))(hx:PS X st (tRS X fx))(h2:PSs X rest (tRS X gx)):PSs X (st::rest) (tRS X λρ=>match fs ρ with|.ok (.nx ρ')=>gx ρ'|.ok _=>Z8|_=>fx ρ):=by
 intro pins s σ H D I hq;obtain⟨ρ,F,cl,so,e1,lv⟩:=hq;have e1:(match fs ρ with|.ok (.nx ρ')=>gx ρ'|.ok _=>Z8|_=>fx ρ)=Z9 cl:=e1
 have raw:(∃ρ',fs ρ=.ok (.nx ρ')/\gx ρ'=Z9 cl)\/fx ρ=Z9 cl:=by
  cases e2:fs ρ with
  |ok o=>
   rw[e2]at e1;cases o with
   |nx ρ'=>exact .inl ⟨ρ',rfl,e1⟩
   |rt=>cases e1
  |exc z=>rw[e2]at e1;exact .inr e1
  |no=>rw[e2]at e1;exact .inr e1
 rcases raw with⟨ρ',e2,e3⟩|e2
 .exact zW h1 h2 pins s σ H D I ⟨ρ,F,_,so,e2,λσ' H' F' qJ r f=>⟨ρ',F',cl,qJ,e3,lv.mono r.1⟩⟩
 .refine nz (aN (hx pins s σ H ⟨λ_ _=>False,λ_ _=>False,λ_ _=>False,λ_ _=>False⟩ I ⟨ρ,F,cl,so,e2,lv⟩) λf s1 q=>?_);cases f with
  |next=>obtain⟨_,_,_,z⟩:=q;exact z.elim
  |brk=>obtain⟨_,_,_,z⟩:=q;exact z.elim
  |cont=>obtain⟨_,_,_,z⟩:=q;exact z.elim
  |ret u=>obtain⟨_,_,_,_,_,z⟩:=q;exact z.elim
theorem zpo (hp:iq (model X.prog X.w) X.A X.env X.xe)(hc:X.calm=Z7)(hi:PI X tg iter (tDF X.K fw))(hg:PG X tg (tDG X.K t))(hb:PSs X body (tDS X.K fs))(hx:PSs X body (tRS X fx))(hs:∀x,g7 iter X.env x=pure x):
  PS X (.For tg iter body [] pos) (tRS X λρ=>match fw ρ with
   |.ok w=>lQ (λx ρ1=>cZ t (gJ x w.1,x) ρ1>>=λcK=>fs cK) (λx ρ1=>match cZ t (gJ x w.1,x) ρ1 with|.ok cK=>fx cK|_=>Z8) w.2.1 w.2.2
   |_=>Z8):=by
 have Th:PSs X body (λD σ H=>tDS X.K fs D σ H\/tRS X fx D σ H):=λpins s σ H D I z=>z.elim (hb pins s σ H D I) (hx pins s σ H D I);refine PS.imp (zkb hp hc hi hg Th hs) λD σ H zz=>?_;obtain⟨ρ,F,c,so,e,lv⟩:=zz
 dsimp only at e
 cases e1:fw ρ with
 |no=>rw[e1]at e;cases e
 |exc z=>rw[e1]at e;cases e
 |ok w=>
  rw[e1]at e
  dsimp only at e
  refine⟨ρ,F,w,so,e1,λJ B H1 F1 s1 r1 f1 ye DC DD wk=>?_⟩;generalize hf:(λx ρ1=>cZ t (gJ x w.1,x) ρ1>>=λcK=>fs cK)=f at e;generalize EA:(λx ρ1=>match cZ t (gJ x w.1,x) ρ1 with|.ok cK=>fx cK|_=>Z8)=gx at e
  have kp:∀{F2:Fm} {H2:Hp},bY F1 H1 F2 H2->Kp B H1 H2:=λ{F2 H2} fr a o e b=>by
   have hO:F1.O a=none:=by
    rcases b with b|b
    .exact DC a b
    .cases e2:F1.O a with
     |none=>rfl
     |some j=>obtain⟨_,_,h'⟩:=ye.own a j e2;rcases h' with⟨xs,h'⟩|⟨xs,h'⟩<;>rw[e]at h'<;>cases h'<;>exact b.elim
   exact(fr a o e hO).1
  let W:Nat->Nat->L2.St->Hp->Prop:=λi m wX H2=>m=w.2.1.length-i/\i<=w.2.1.length/\∃cK F2,StOk X.K F2 H2 wX cK/\Run F1 F2/\bY F1 H1 F2 H2/\lQ f gx (w.2.1.drop i) cK=Z9 c
  refine⟨W,⟨_,rfl,dr _,w.2.2,F1,ye,Run.refl,bY.refl,e⟩,?_⟩
  rintro i m wX H2 ⟨rfl,DE,cK,F2,Dw,r2,f2,e2⟩
  by_cases eB:i<w.2.1.length
  .refine .inr ⟨wk.go H2 (kp f2) i eB,W (i+1) (w.2.1.length-(i+1)),λσ' H' p=>⟨_,by omega,p⟩,λx H3 y=>?_⟩;obtain⟨s3,d,hd,rx⟩:=wk.jI H2 (kp f2) i x H3 eB y
   have DF:w.2.1.drop i=d::w.2.1.drop (i+1):=by
    have dc:=ip eB;rw[dc];have:w.2.1[i]=d:=by rw[ba eB]at hd;exact xr hd
    rw[this]
   rw[DF]at e2;simp only[lQ]at e2;have Ti:=Dw.same s3
   have yf:Rep X.K H3 (BI F2 (gJ d w.1)) x d:=by
    have DH:∀g a,BI F1 g a->BI F2 g a:=λg a b=>by cases g<;>cases a<;>first|exact b|(have b':F1.V _:=b;rw[<-r2.2.1]at b';exact b')|(have b':F1.z:=b;rw[<-r2.2.2]at b';exact b')|(have b':F1.H0 _≠Z8/\F1.V _:=b;exact⟨λz=>b'.1 (none_of r2.1 z),by rw[r2.2.1];exact b'.2⟩)
    unfold gJ;by_cases hi:imm d=Z7
    .rw[xp hi];exact Rep.bG d hi rx
    .rw[xq hi];exact rx.weak λa b=>DH _ _ (DD a b)
   cases e5:cZ t (gJ d w.1,d) cK with
   |no=>rw[<-hf,<-EA]at e2;simp only[e5,Res.nX]at e2;cases e2
   |exc z=>rw[<-hf,<-EA]at e2;simp only[e5,Res.lL]at e2;cases e2
   |ok sU=>
    have ef:f d cK=fs sU:=by rw[<-hf];show(cZ t (gJ d w.1,d) cK>>=λcK=>fs cK)=_;rw[e5];rfl
    have eg:gx d cK=fx sU:=by rw[<-EA];show(match cZ t (gJ d w.1,d) cK with|.ok cK=>fx cK|_=>Z8)=_;rw[e5]
    rw[ef,eg]at e2;refine⟨cK,F2,(gJ d w.1,d),sU,Ti,yf,e5,λiX F4 qI AU=>?_⟩;have r4:=r2.trans (Run.of AU.h0 AU.v AU.z);have f4:=f2.trans λa o e n=>⟨s3 a o e,AU.o a n⟩;cases e6:fs sU with
    |ok o1=>
     rw[e6]at e2;refine .inl ⟨sU,F4,o1,qI,e6,?_⟩;cases o1 with
     |nx DI=>exact λσ' H' F' qJ r' f'=>⟨rfl,eB,DI,F',qJ,r4.trans r',f4.trans f',e2⟩
     |rt g d=>cases e2
    |exc z=>rw[e6]at e2;exact .inr ⟨sU,F4,c,qI,e2,lv.mono (r1.trans r4).1⟩
    |no=>rw[e6]at e2;exact .inr ⟨sU,F4,c,qI,e2,lv.mono (r1.trans r4).1⟩
  .have DJ:i=w.2.1.length:=by omega
   subst DJ;rw[qj]at e2;cases e2
theorem Tj:PSs X [] (tRS X λ_=>Z8):=λpins s σ H D I hq=>(yJ (λ_=>rfl) σ H hq).elim
theorem Tn {C:Addr}(hh:X.A.handled=Z8)(hg:Gl X x)(hm:X.mg x=Z9 (.ref C))(hdb:Y4 x)(hC:yG X.K C=Z7):PS X (.Raise (Z9 (.Call (.Name x np) [.Constant (.str z) kk kp] [] cp)) Z8 pos) (tRS X λ_=>Z9 x):=by
 intro pins s σ H D I hq;obtain⟨ρ,F,c,so,e1,lv⟩:=hq;cases e1;obtain⟨bm,N,nm,q,bs,hdct,sn,sub,ab,col,dd,k0,k1,k2,k3,k5,mN,oC,hN,To,T⟩:=Ew.mk I.mod.uK hC;have hb:=T.hasType (X:="BaseException") rfl;have jZ:(oh cp (fh [.Constant (.str z) kk kp] X.env)).any (·.1)=false:=rfl;have hA:=xA (X:=X) (Hj (x:=z) (j:=kk) (pos:=kp)) mM;refine wpAny_Raise_call_subT (nm:=nm) (q:=q) (N:=N) (bs:=bs) (hdct:=hdct) (sn:=sn) (sub:=sub) (ab:=ab) (col:=col) (dd:=dd) (k0:=k0) (k1:=k1) (k2:=k2) (k3:=k3) (k5:=k5) PySem.F.excBase_ValueError hb hh jZ To (z3l I hg hm ⟨rfl,?_⟩ hdb);have Tq:=hA cp pins s σ H (λvs H1=>vs.length=1/\H1=H) I ⟨rfl,rfl⟩;refine sx (aN Tq λus s1 zz=>?_);obtain⟨vs,H1,I1,r,hv,rfl⟩:=zz;have hl:us.length=1:=by rw[<-r.length];exact hv
 exact⟨rfl,by rw[hl];decide,I1.bk _ _ oC,hN.keeps I1.bk,T.keeps I1.bk,λh' a hx=>lv.made pins σ H1 s1 a C us h' I1 hm so.ext hx⟩
end
def vJ (X:Cx)(i:Nat)(n:Str)(a:Addr)(oe:Obj):Cx:={X with A:=X.A.mark (Z9 (.ref a)),N:=X.N.set i "",calm:=Z6,pn:=(a,oe)::X.pn,xe:=λ_ _=>False,fx:=Z9 (n,.ref a)}
section
variable {X:Cx}{pins:List (Addr×Obj)}{σ:L2.St}{H:Hp}{s:ao}{i:Nat}{n:Str}{a:Addr}{oe:Obj}
theorem Tr (ok:X.Ok)(nd:X.N.Nodup)(d:X.N[i]?=Z9 n)(f:X.env.scope.names.lookup ("":Str)=Z8)(c:X.env.scope.names.lookup n=Z9 .local):(vJ X i n a oe).Ok:=by
 refine⟨ok.mod,ok.kind,ok.glob,ok.blt,ok.above,ok.inj,ok.has,ok.pU,λz=>(by cases z),ok.frames,ok.qZ,ok.rA,ok.bs,ok.iS,ok.gD,ok.gF,ok.cP,ok.nO,λx u z=>?_⟩;cases z;refine⟨λhm=>?_,c⟩;obtain⟨j,b⟩:=dm.mp hm;have b:(X.N.set i "")[j]?=Z9 n:=b;by_cases e:i=j
 .subst e;rw[cz (bc.mp d).1]at b;cases b;rw[f]at c;cases c
 .rw[bz e]at b;exact e (wQ nd d b)
theorem zrl (I:Inv X b g H s)(nd:X.N.Nodup)(h:X.N[i]?=Z9 n)(t:X.env.scope.names.lookup ("":Str)=Z8)(l:X.env.scope.names.lookup n=Z9 .local)(o:g[i]?=Z9 (Z9 (.ref a)))
  (w:s.heap.get? a=Z9 oe) (y:H a=Z8) (A:a≠X.env.locals) (B:a∉X.fs) (C:∀v,oe.data≠.cell v):Inv (vJ X i n a oe) b (g.set i Z8) H s:=by
 obtain⟨m,hn,c⟩:=I.loc;refine⟨Tr I.ok nd h t l,I.os,I.bare,I.base,⟨m,hn,λj x v d f D=>?_⟩,I.cell,I.free,I.bD,λp r=>?_,I.hok,?_,λx u z=>?_⟩
 .have d:(X.N.set i "")[j]?=Z9 x:=d;by_cases e:i=j
  .subst e;rw[cz (I.len▸(bc.mp h).1)]at f;cases f
  .rw[bz e]at d f;exact c j x v d f D
 .rcases aw.mp r with rfl|r
  .exact⟨w,y,A,B,C⟩
  .exact I.pin p r
 .show(g.set i Z8).length=(X.N.set i "").length;rw[cu,cu];exact I.len
 .cases z;obtain⟨u,rfl,q⟩:=c i n (.ref a) h o (.inl l);rcases q with⟨_,q⟩|⟨k,_⟩
  .exact⟨m,hn,q⟩
  .have k:X.env.scope.names.lookup n=Z9 .cell\/X.env.scope.names.lookup n=Z9 .free:=k;rcases k with k|k<;>(rw[l]at k;cases k)
theorem Ts (ok:X.Ok)(h:X.fx=Z8)(k:X.N[i]?=Z9 n)(I:Inv (vJ X i n a oe) c g H s):Inv X c (g.set i Z8) H s:=by
 obtain⟨m,hn,f⟩:=I.loc;have b:g.length=(X.N.set i "").length:=I.len;rw[cu]at b;refine⟨ok,I.os,I.bare,I.base,⟨m,hn,λj x v l d o=>?_⟩,I.cell,I.free,I.bD,λp q=>I.pin p (av _ q),I.hok,by rw[cu];exact b,λx u z=>by rw[h]at z;cases z⟩;by_cases e:i=j
 .subst e;rw[cz (b▸(bc.mp k).1)]at d;cases d
 .rw[bz e]at d;exact f j x v (show(X.N.set i "")[j]?=Z9 x by rw[bz e];exact l) d o
theorem zt7 (I:Inv X f σ H s)(a:X.fx=Z8)(nd:X.N.Nodup)(t:X.N[i]?=Z9 n)(B:X.env.scope.names.lookup n=Z9 .local)(C:σ[i]?=Z9 (Z9 v))
  (h:∀K,Inv X f (σ.set i Z8) H K->Q () K):wpAny M A (n9 X.env n pos) Q E s:=by
 obtain⟨m,hn,g⟩:=id I.loc;have kN:=I.kN;obtain⟨u,r,q⟩:=g i n v t C (.inl B)
 have O:m n=Z9 u:=by
  rcases q with⟨_,q⟩|⟨k,_⟩
  .exact q
  .have k:X.env.scope.names.lookup n=Z9 .cell\/X.env.scope.names.lookup n=Z9 .free:=k;rcases k with k|k<;>(rw[B]at k;cases k)
 refine n7 (wpAny_unbindName_local B hn O (by rw[I.ok.kind];rfl) λh' u' D hs=>h _ ?_);have old:∀b o,X.s₀.heap.get? b=Z9 o->b≠X.env.locals:=λb o e=>br (b8 (bh e) I.ok.above);refine⟨I.ok,I.os,I.bare,⟨λb o e z F a=>(hs.2 b (old b o e)).trans (I.base.keep b o e z F a),λb o e z F a=>?_,I.base.free,λb o e a=>?_,I.base.cN,I.base.bZ,I.base.cO⟩,⟨_,D,λj y w d l P=>?_⟩,λy c e=>?_,I.free,I.bD,λp R=>?_,λb ob e=>?_,by rw[cu];exact I.len,λx u z=>by rw[a]at z;cases z⟩
 .obtain⟨sl,d⟩:=I.base.slot b o e z F a;exact⟨sl,(hs.2 b (old b o e)).trans d⟩
 .obtain⟨S,d⟩:=I.base.there b o e a;exact⟨S,(hs.2 b (old b o e)).trans d⟩
 .by_cases G:i=j
  .subst G;rw[cz (I.len▸(bc.mp t).1)]at l;cases l
  .rw[bz G]at l;obtain⟨T,U,J⟩:=g j y w d l P;refine⟨T,U,?_⟩;have V:y≠n:=λz=>G (wQ nd t (z▸d));rcases J with⟨k,J⟩|⟨k,c,e,z⟩
   .exact .inl ⟨k,by simp only[xq V];exact J⟩
   .exact .inr ⟨k,c,e,z.sameBut hs (kN y c e)⟩
 .obtain⟨w,z⟩:=I.cell y c e;exact⟨w,z.sameBut hs (kN y c e)⟩
 .obtain⟨e,W,ne,nf,Y⟩:=I.pin p R;exact⟨(hs.2 p.1 ne).trans e,W,ne,nf,Y⟩
 .have L:∀c w,H c=Z9 w->c≠X.env.locals:=λc w q z=>by rw[z,I.free]at q;cases q
  exact(I.hok b ob e).stay (λc w hc q=>(hs.2 c (hc.elim (λz=>by rw[z];exact L b _ e) λz=>L c _ z)).trans q) (λ_ q=>q) λ_ _ q=>q
theorem ze2 (ok:X.Ok)(hx:X.fx=Z8)(nd:X.N.Nodup)(hi:X.N[i]?=Z9 n)(hl:X.env.scope.names.lookup n=Z9 .local)(hnx:∀σ' H',D2.nx σ' H'->Dn.nx (σ'.set i Z8) H')(hrt:∀v H',D2.rt v H'->Dn.rt v H')(hbk:∀σ' H',¬D2.bk σ' H')(hct:∀σ' H',¬D2.ct σ' H')
  (h:SP (vJ X i n a oe) pins D2 f s):wpAny M X.A (do bindName X.env n .none;n9 X.env n pos) (λ_ s5=>SP X pins Dn f s5) E s:=by
 have key:∀{σ':L2.St} {H':Hp} {Q:Unit->ao->Prop},Inv (vJ X i n a oe) pins σ' H' s->(∀s5,Inv X pins (σ'.set i Z8) H' s5->Q () s5)->wpAny M X.A (do bindName X.env n .none;n9 X.env n pos) Q E s:=λ{σ' H' Q} I k=>by have I1:=Ts ok hx hi I;refine aa (wpAny_bindName (z4o I1 nd hi (.inl hl) (v:=.bK) rfl (λs4 I4 _=>?_) (.inr hl)));refine zt7 I4 hx nd hi hl (cz (I1.len▸(bc.mp hi).1)) λs5 I5=>k s5 ?_;rw[v7,v7]at I5;exact I5
 cases f with
 |next=>obtain⟨σ',H',I,q⟩:=h;exact key I λs5 I5=>⟨_,H',I5,hnx σ' H' q⟩
 |ret u=>obtain⟨v,σ',H',I,r,q⟩:=h;exact key I λs5 I5=>⟨v,_,H',I5,r,hrt v H' q⟩
 |brk=>obtain⟨σ',H',_,q⟩:=h;simp_all
 |cont=>obtain⟨σ',H',_,q⟩:=h;simp_all
theorem Tu {C:Addr}(f:Fly P w base outer H s C a b d g):b a=none:=by
 obtain⟨B,_,c,_,fl⟩:=f.hh;cases e:b a with
 |none=>rfl
 |some u=>obtain⟨o,q⟩:=KH (c a u e);rw[fl.2.1]at q;cases q
end
section
variable {X:Cx}{n x:Str}{p p1 p2 pos:Pos}{a C:Addr}{oe:Obj}{v:V}{u:Value}{b:Bool}
theorem KN (c:X.fx=Z9 (n,.ref a))(d:X.env.scope.names.lookup n=Z9 .local)(hd:Y4 n):PE X (.Name n p) (λ_ H Q=>Q (.ref a) H):=by intro b s e H Q I h;obtain⟨m,hn,hm⟩:=I.fx n _ c;exact uq (sk I.ok.kind d hn hm ⟨.ref a,H,I,rfl,h⟩) hd
theorem Tv (a:Gl X x)(hm:X.mg x=Z9 u\/(X.mg x=Z8/\c9 x=Z9 u/\x≠"__name__"))(r:RelV v u)(hd:Y4 x):PE X (.Name x p) (λ_ H Q=>Q v H):=by
 intro b s f H Q I h;rcases hm with hm|⟨c,d,e⟩
 .exact z3l I a hm ⟨v,H,I,r,h⟩ hd
 .exact z3n I a c d ⟨v,H,I,r,h⟩ e hd
def Xh (X:Cx)(a:Addr)(oe:Obj):Prop:=∀pins σ H s,Inv X pins σ H s->s.heap.get? a=Z9 oe
theorem zy7 (hm:X.mg "isinstance"=Z8)(k:Gl X "isinstance")(l:X.fx=Z9 (n,.ref a))(m:X.env.scope.names.lookup n=Z9 .local)(hd:Y4 n)(o:Xh X a oe)(hc:oe.cls=.ref C)
  (f:Gl X x) (g:X.mg x=Z9 u\/(X.mg x=Z8/\c9 x=Z9 u/\x≠"__name__")) (r:RelV v u) (t:∀w,RelV v w->w=u) (h:Y4 x) (xa:XA X.K C) (y:XV X.K u) (hs:Z4 X.K (.ref C) u=Z9 b):
  PE X (.Call (.Name "isinstance" p) [.Name n p1,.Name x p2] [] pos) (tD X.K λ_=>.ok (.fr,.bool b)):=by
 rintro c s A H Q I ⟨N,F,z,so,e,q⟩
 cases e;refine jh (z3n (u:=.builtin "isinstance") I k hm (by decide+kernel) ?_ dc dc);refine PyProof.Rows.callWith_builtin1 (aN ((xA (KN (p:=p1) l m hd) (xA (Tv (p:=p2) f g r h) mM)) pos c s A H (λj d=>j=[.ref a,v]/\d=H) I ⟨rfl,rfl⟩) λO P B=>?_) rfl rfl;obtain⟨j,d,i,D,rfl,rfl⟩:=B;cases D with
 |cons E rt=>
  cases rt with
  |cons G rn=>cases rn;rename_i J L;obtain rfl:J=ZV a:=E;have M:=t L G;subst M;exact zyl i.eN xa (o _ _ _ _ i) hc y hs λR=>⟨.bl b,d,i.tok _,rfl,q _ d (Same.refl d) rfl⟩
end
section
theorem aE (h:(a&&b)=Z7):a=Z7/\b=true:=b6.mp h
theorem bE (h:(a&&b&&c)=Z7):a=Z7/\b=Z7/\c=true:=⟨(aE (aE h).1).1,(aE (aE h).1).2,(aE h).2⟩
theorem dC (h:(a&&b&&c&&d)=Z7):a=Z7/\b=Z7/\c=Z7/\d=true:=⟨(bE (aE h).1).1,(bE (aE h).1).2.1,(bE (aE h).1).2.2,(aE h).2⟩
theorem dD (h:(a&&b&&c&&d&&e)=Z7):a=Z7/\b=Z7/\c=Z7/\d=Z7/\e=true:=⟨(dC (aE h).1).1,(dC (aE h).1).2.1,(dC (aE h).1).2.2.1,(dC (aE h).1).2.2.2,(aE h).2⟩
theorem eP (h:(!b)=Z7):b=false:=by cases b<;>first|rfl|cases h
theorem ff {p:Prop}(h:b=Z6)(z:b=Z7):p:=by rw[h]at z;cases z
theorem iC (h:l.isEmpty=Z7):l=[]:=by cases l<;>first|rfl|cases h
theorem vK (h:(!l.isEmpty)=Z7):∃x r,l=x::r:=by cases l<;>first|exact⟨_,_,rfl⟩|cases h
theorem aW (h:o.any f=Z7):∃v,o=Z9 v/\f v=true:=by
 cases o with
 |none=>cases h
 |some v=>exact⟨v,rfl,h⟩
theorem bS {a:Type}{o:Option a}{v:a}{q:a->Prop}(h:o=Z9 v)(d:o=Z8\/∃u,o=Z9 u/\q u):q v:=by grind
theorem yK (h:CU e=Z9 v):∃p,e=.Name v p:=bS (q:=λv=>∃p,e=.Name v p) h (by cases e<;>first|exact .inl rfl|exact .inr ⟨_,rfl,_,rfl⟩)
theorem vL (h:gR e=Z9 v):∃k p,e=.Constant v k p:=bS (q:=λv=>∃k p,e=.Constant v k p) h (by cases e<;>first|exact .inl rfl|exact .inr ⟨_,rfl,_,_,rfl⟩)
theorem KO (h:rW e=Z9 v):∃p,e=.BinOp v.1 v.2.1 v.2.2 p:=bS (q:=λv=>∃p,e=.BinOp v.1 v.2.1 v.2.2 p) h (by cases e<;>first|exact .inl rfl|exact .inr ⟨_,rfl,_,rfl⟩)
theorem sV (h:CV e=Z9 v):∃p,e=.UnaryOp v.1 v.2 p:=bS (q:=λv=>∃p,e=.UnaryOp v.1 v.2 p) h (by cases e<;>first|exact .inl rfl|exact .inr ⟨_,rfl,_,rfl⟩)
theorem yL (h:Ai e=Z9 v):∃p,e=.Compare v.1 v.2.1 v.2.2 p:=bS (q:=λv=>∃p,e=.Compare v.1 v.2.1 v.2.2 p) h (by cases e<;>first|exact .inl rfl|exact .inr ⟨_,rfl,_,rfl⟩)
theorem oZ (h:xV e=Z9 v):e=.BoolOp v.1 v.2.1 v.2.2:=bS (q:=λv=>e=.BoolOp v.1 v.2.1 v.2.2) h (by cases e<;>first|exact .inl rfl|exact .inr ⟨_,rfl,rfl⟩)
theorem Tw (h:xW e=Z9 v):∃p,e=.IfExp v.1 v.2.1 v.2.2 p:=bS (q:=λv=>∃p,e=.IfExp v.1 v.2.1 v.2.2 p) h (by cases e<;>first|exact .inl rfl|exact .inr ⟨_,rfl,_,rfl⟩)
theorem EB (h:rX e=Z9 v):∃k p,e=.Tuple v k p:=bS (q:=λv=>∃k p,e=.Tuple v k p) h (by cases e<;>first|exact .inl rfl|exact .inr ⟨_,rfl,_,_,rfl⟩)
theorem KP (h:rY e=Z9 v):∃p,e=.List v p:=bS (q:=λv=>∃p,e=.List v p) h (by cases e<;>first|exact .inl rfl|exact .inr ⟨_,rfl,_,rfl⟩)
theorem EC (h:Io e=Z9 v):∃p,e=.Dict v.1 v.2 p:=bS (q:=λv=>∃p,e=.Dict v.1 v.2 p) h (by cases e<;>first|exact .inl rfl|exact .inr ⟨_,rfl,_,rfl⟩)
theorem ED (h:oF e=Z9 v):∃p,e=.Subscript v.1 v.2 p:=bS (q:=λv=>∃p,e=.Subscript v.1 v.2 p) h (by cases e<;>first|exact .inl rfl|exact .inr ⟨_,rfl,_,rfl⟩)
theorem Tx (h:xX e=Z9 v):∃p,e=.Slice v.1 v.2.1 v.2.2 p:=bS (q:=λv=>∃p,e=.Slice v.1 v.2.1 v.2.2 p) h (by cases e<;>first|exact .inl rfl|exact .inr ⟨_,rfl,_,rfl⟩)
theorem yM (h:CW e=Z9 v):e=.Call v.1 v.2.1 v.2.2.1 v.2.2.2:=bS (q:=λv=>e=.Call v.1 v.2.1 v.2.2.1 v.2.2.2) h (by cases e<;>first|exact .inl rfl|exact .inr ⟨_,rfl,rfl⟩)
theorem EE (h:Ip e=Z9 v):e=.Attribute v.1 v.2.1 v.2.2:=bS (q:=λv=>e=.Attribute v.1 v.2.1 v.2.2) h (by cases e<;>first|exact .inl rfl|exact .inr ⟨_,rfl,rfl⟩)
theorem EF (h:Iq e=Z9 v):∃p,e=.ListComp v.1 v.2.1 v.2.2 p:=bS (q:=λv=>∃p,e=.ListComp v.1 v.2.1 v.2.2 p) h (by cases e<;>first|exact .inl rfl|exact .inr ⟨_,rfl,_,rfl⟩)
theorem kX (h:dY l=Z9 v):l=[v]:=by rcases l with _|⟨x,_|⟨y,l⟩⟩<;>cases h;rfl
theorem EG (h:oG l=Z9 v):l=[v.1,v.2]:=by rcases l with _|⟨x,_|⟨y,_|⟨z,l⟩⟩⟩<;>cases h;rfl
theorem iN (h:jV e=Z9 v):∃q p,e=.Call (.Name v.1 q) v.2 [] p:=by
 obtain⟨u,hu,h⟩:=kb.mp h;cases a:u.2.2.1.isEmpty with
 |false=>rw[a]at h;simp_all
 |true=>rw[a]at h;obtain⟨x,b,rfl⟩:=dj.mp h;obtain⟨q,c⟩:=yK b;exact⟨q,_,by rw[yM hu,c,iC a]⟩
theorem sW (h:xY e=Z9 v):∃b c,e=.Call (.Attribute v.1 v.2.1 b) v.2.2.1 [] c/\v.2.2.2=(b.endLine==c.line):=by
 obtain⟨u,hu,h⟩:=kb.mp h;cases a:u.2.2.1.isEmpty with
 |false=>rw[a]at h;simp_all
 |true=>rw[a]at h;obtain⟨x,d,rfl⟩:=dj.mp h;exact⟨_,_,by rw[yM hu,EE d,iC a],rfl⟩
theorem jC (h:kS f e=Z7):∃x p,e=.Name x p/\f x=true:=by obtain⟨x,a,h⟩:=aW h;obtain⟨p,b⟩:=yK a;exact⟨x,p,b,h⟩
def Tz (K:Z5)(mg:Str->Option Value)(c C:Str)(b:Bool):Prop:=∃A v u,mg c=Z9 (.ref A)/\XA K A/\XV K u/\Z4 K (.ref A) u=Z9 b/\RelV v u/\(∀w,RelV v w->w=u)/\(mg C=Z9 u\/(mg C=Z8/\c9 C=Z9 u/\C≠"__name__"))
def EH (K:Z5)(mg:Str->Option Value)(c:Str):Prop:=∃C,mg c=Z9 (.ref C)/\yG K C=Z7
def TB (K:Z5)(mg:Str->Option Value)(c B:Str):Prop:=∃C D,mg c=Z9 (.ref C)/\mg B=Z9 (.ref D)/\kH K C=Z7/\kH K D=Z7/\Z4 K (.ref C) (.ref D)=Z9 Z7
structure sX (Γ:Gm)(K:Z5)(mg:Str->Option Value):Prop where
 sub:∀c C b,Γ.sub.contains (c,C,b)=Z7->Tz K mg c C b
 rs:∀c,Γ.rs.contains c=Z7->EH K mg c
 lS:∀c B,Γ.lS.contains (c,B)=Z7->TB K mg c B
structure Cok (Γ:Gm)(Κ:List D)(Φ:List Fn)(X:Cx)(r:Nat):Prop where
 hN:X.N=Γ.N
 hs:X.env.scope=Γ.sc
 nd:Γ.N.Nodup
 fn:Γ.blk=Z6->∀x,X.fn x=Z7
 kind:Γ.sc.kind=.function
 free:∀x,Γ.free.contains x=Z7->X.mg x=Z8
 fns:∀(j:Nat) f n,Γ.fns[j]?=Z9 (f,n)->∃m k ps,Φ[j]?=Z9 m/\k<=r/\Cal X.prog X.w X.K X.mg X.base k f ps (spD X.K n m)
 cst:∀(j:Nat) x,Γ.cst[j]?=Z9 x->∃d v u,Κ[j]?=Z9 d/\X.mg x=Z9 u/\RelV v u/\∀H B,B Z8->Rep X.K H B v d
 mV:∀(j:Nat) f n,Γ.fns[j]?=Z9 (f,n)->∃m k ps,Φ[j]?=Z9 m/\k<=r/\CalX X.prog X.w X.K X.mg X.base k f ps n m
 room:Γ.cm=Z7->Room r X.A
 calm:Γ.cm=Z7->X.calm=Z7
 hu:X.A.units+64<cLine
 yN:Γ.blk=Z6->X.stack=X.env::X.outer/\X.env.frame=Z9 X.env.locals
 KQ:Γ.xc=Z8->X.fx=Z8
 xc:∀n c,Γ.xc=Z9 (n,c)->∃a oe C,X.fx=Z9 (n,.ref a)/\Xh X a oe/\oe.cls=.ref C/\X.mg c=Z9 (.ref C)
 xk:sX Γ X.K X.mg
section
variable {Γ:Gm}{Κ:List D}{Φ:List Fn}{X:Cx}{r:Nat}
theorem Cok.gl (k:Cok a Κ Φ X r)(h:mS a x=Z7):Gl X x/\Y4 x:=by unfold mS at h;rw[ax]at h;refine⟨?_,by simpa using h.2⟩;show X.env.scope.names.lookup x=_;rw[k.hs];simpa using h.1
theorem Cok.aM (k:Cok b Κ Φ X r)(h:gQ b i x=Z7):X.N[i]?=Z9 x/\Vis X.env.scope x/\Y4 x/\(x==("__classdict__":Str))=false:=by
 unfold gQ at h;simp at h;have⟨⟨⟨h1,a⟩,h3⟩,h4⟩:=h;refine⟨by rw[k.hN];exact h1,?_,by simpa using h3,by simpa using h4⟩;rw[k.hs];rcases a with(a|a)|a
 .exact .inl a
 .exact .inr (.inl a)
 .exact .inr (.inr a)
theorem Cok.loc (k:Cok b Κ Φ X r)(h:lT b i x=Z7):X.N[i]?=Z9 x/\Loc X.env.scope x/\(X.fn x=Z7\/X.env.scope.names.lookup x=Z9 .local):=by
 unfold lT at h;simp at h;obtain⟨c,a⟩:=h;refine⟨by rw[k.hN];exact c,?_,?_⟩
 .unfold L2.Loc;rw[k.hs];rcases a with a|⟨_,a⟩
  .exact .inl a
  .exact .inr a
 .rcases a with a|⟨a,_⟩
  .exact .inr (k.hs▸a)
  .exact .inl (k.fn a x)
theorem Cok.blt (k:Cok a Κ Φ X r)(h:dR a x=Z7):Gl X x/\X.mg x=Z8/\Y4 x/\x≠"__name__":=by unfold dR at h;simp only[b6]at h;obtain⟨⟨b,c⟩,d⟩:=h;obtain⟨g1,g2⟩:=k.gl b;exact⟨g1,k.free x c,g2,by simpa using d⟩
theorem TC {C:Addr}:(blk X scope a C b s H).env.scope=CS scope X.env.scope:=rfl
theorem Cok.blk (k:Cok a Κ Φ X r)(c:scope.kind=.function)(nd:b.Nodup)(C:Addr)(d:List Addr)(s:ao)(H:Hp):Cok {a with N:=b,sc:=CS scope a.sc,blk:=Z7,xc:=Z8} Κ Φ (blk X scope b C d s H) r where
 hN:=rfl
 hs:=by rw[TC,k.hs]
 nd:=nd
 fn:=λz=>by cases z
 kind:=c
 free:=k.free
 fns:=k.fns
 cst:=k.cst
 mV:=k.mV
 room:=k.room
 calm:=k.calm
 hu:=k.hu
 yN:=λz=>by cases z
 KQ:=λ_=>rfl
 xc:=λ_ _ z=>by cases z
 xk:=⟨k.xk.sub,k.xk.rs,k.xk.lS⟩
theorem TF (k:Cok a Κ Φ X r)(all:List Nat):∀{es:List Expr},CY a is es=Z7->PGs X es (lX X.K all is)/\(i7 es X.env).length=is.length/\(i7 es X.env).findIdx? (·.1)=none:=by
 induction is with
 |nil=>intro es h;cases iC h;exact⟨QF,rfl,rfl⟩
 |cons i is b=>
  intro es h;cases es with
  |nil=>cases h
  |cons e es=>
   obtain⟨h0,c⟩:=aE h;obtain⟨x,p,rfl,h0⟩:=jC h0;obtain⟨d,f,g⟩:=k.loc h0;obtain⟨a1,a2,a3⟩:=b c;refine⟨QG (k.hN▸k.nd) d f g a1,?_,?_⟩
   .show(i7 es X.env).length+1=_;rw[a2];rfl
   .show((Z6,ur (.Name x p) X.env)::i7 es X.env).findIdx? (·.1)=Z8;rw[List.findIdx?_cons,a3];rfl
theorem AV (k:Cok b Κ Φ X r)(h:Aj b t e=Z7):PG X e (tDG X.K t):=by
 cases t with
 |nm i=>obtain⟨x,p,rfl,a⟩:=jC h;obtain⟨c,d,f⟩:=k.loc a;exact QE (k.hN▸k.nd) c d f
 |tp is=>obtain⟨h0,h⟩:=aE h;obtain⟨v,g,a⟩:=aW h;obtain⟨_,_,rfl⟩:=EB g;obtain⟨a1,a2,a3⟩:=TF k is a;exact QH (k.calm h0) a1 rfl a3 a2.symm
theorem KR (h:plainT e=Z7)(env:Env):∀a,sj e env a=(do let v <-a;wx e.pos;va [v] (w4 v)):=by
 intro a;cases e<;>first|(cases h;done)|rfl|skip
 rename_i b x p;cases b<;>first|(cases h;done)|rfl
theorem EI (h:Ah e=Z7)(env:Env):∀x,g7 e env x=pure x:=by intro x;cases e<;>first|(cases h;done)|rfl
end
variable (Κ:List D)(Φ:List Fn)
theorem TH (c:C):∀b es d f,dB b c es=Z7->cS Κ Φ c d=.ok f->f.length=es.length/\(es.all λe=>!isStar e)=true:=by
 induction c with
 |nil=>intro b es d f h e;cases iC h;cases e;exact⟨rfl,rfl⟩
 |cons a r _ i=>
  intro b es d f h e;cases es with
  |nil=>cases h
  |cons x es=>obtain⟨j,_,k⟩:=bE h;obtain⟨y,_,e⟩:=Res.aA e;obtain⟨g,l,e⟩:=Res.aA e;cases e;obtain⟨m,n⟩:=i b es d g k l;exact⟨by rw[a8,a8,m],by rw[fq,n,j];rfl⟩
 |_=>exact λ_ _ _ _ h=>ff rfl h
end
section
theorem TJ (h:tyB a T t=Z7):∃x p,t=.Name x p/\x=Str.ofString T/\dR a x=Z7/\T∈tysB:=by obtain⟨x,p,e,h⟩:=jC h;obtain⟨b,c,d⟩:=bE h;exact⟨x,p,e,x5 b,c,df.mp d⟩
theorem yO (h:(a||b)=Z7)(n:b=Z6):a=true:=by rw[n,p8]at h;exact h
theorem TK (h:T∈tysB):c9 (Str.ofString T)=Z9 (.type T):=by simp only[tysB,aw,eu,or_false]at h;rcases h with rfl|rfl|rfl|rfl|rfl<;>decide+kernel
variable (Κ:List D)(Φ:List Fn)
theorem kY:∀{c:C} {es:List Expr},dB g c es=Z7->(es.all λe=>!isStar e)=true:=by
 intro c
 induction c with
 |nil=>intro es h;cases iC h;rfl
 |cons a r _ b=>
  intro es h;cases es with
  |nil=>rfl
  |cons e es=>obtain⟨d,_,f⟩:=bE h;rw[fq,b f,d];rfl
 |_=>exact λh=>ff rfl h
theorem sY (h:dB d c es=Z7):∀b a,cS Κ Φ c b=.ok a->a.length=es.length:=λb a e=>(TH Κ Φ c d es b a h e).1
structure Sd (c:C):Prop where
 E:∀(Γ:Gm) (X:Cx) (r:Nat) (e:Expr),Cok Γ Κ Φ X r->chkE Γ c e=Z7->PE X e (tD X.K (aG Κ Φ c))
 T:∀(Γ:Gm) (X:Cx) (r:Nat) (e:Expr),Cok Γ Κ Φ X r->dZ Γ c e=Z7->PT X e (eA X.K (dX Κ Φ c))/\((∃o l p,e=.BoolOp o l p)->PW X e (eA X.K (dX Κ Φ c)))
 Q:∀(Γ:Gm) (X:Cx) (r:Nat) (l:Expr) (ops:List CmpOp) (rs:List Expr) (pos:Pos),Cok Γ Κ Φ X r->chkE Γ c (.Compare l ops rs pos)=Z7->PT X (.Compare l ops rs pos) (eA X.K λρ=>aG Κ Φ c ρ>>=λx=>iH x.2)
 A:∀(Γ:Gm) (X:Cx) (r:Nat) (es:List Expr),Cok Γ Κ Φ X r->dB Γ c es=Z7->PA X es (tDA X.K (cS Κ Φ c))
 O:∀(Γ:Gm) (X:Cx) (r:Nat) (e:Option Expr),Cok Γ Κ Φ X r->oH Γ c e=Z7->PO X e (tDO X.K (rT Κ Φ c))
 W:∀(Γ:Gm) (X:Cx) (r:Nat) (e tg:Expr),Cok Γ Κ Φ X r->C1 c tg=Z7->lU Γ c e=Z7->PI X tg e (tDW X.K (evW Κ Φ c))
 G:∀(Γ:Gm) (X:Cx) (r:Nat) (e:Expr),Cok Γ Κ Φ X r->sA Γ c e=Z7->∃a,c=.tv a/\PE X e (tD X.K (aG Κ Φ a))
def qQ:C->Nat
 |.and _ _|.or _ _|.not _|.tv _|.nil|.cons _ _|.gM _|.zip _ _=>2
 |.cmp _ _ _|.lO _ _=>1
 |_=>0
variable {Κ:List D}{Φ:List Fn}{a b c:C}
section
variable {Γ:Gm}{e tg:Expr}{es:List Expr}{o:Option Expr}
theorem TL (h:qQ c<2):dZ Γ c e=false:=by cases c<;>first|rfl|exact absurd h (cg 2)
theorem TM (h:qQ c<2):dB Γ c es=false:=by cases c<;>first|rfl|exact absurd h (cg 2)
theorem TN (h:qQ c<2):oH Γ c o=false:=by cases c<;>first|rfl|exact absurd h (cg 2)
theorem TQ (h:qQ c<2):lU Γ c e=false:=by cases c<;>first|rfl|exact absurd h (cg 2)
theorem TR (h:qQ c<2):sA Γ c e=false:=by cases c<;>first|rfl|exact absurd h (cg 2)
end
theorem Sd.q (f:∀a X r e,Cok a Κ Φ X r->chkE a c e=Z7->PE X e (tD X.K (aG Κ Φ c)))(g:∀a X r l b rs pos,Cok a Κ Φ X r->chkE a c (.Compare l b rs pos)=Z7->PT X (.Compare l b rs pos) (eA X.K λρ=>aG Κ Φ c ρ>>=λx=>iH x.2))(d:qQ c<2):Sd Κ Φ c:=⟨f,λ_ _ _ _ _ h=>ff (TL d) h,g,λ_ _ _ _ _ h=>ff (TM d) h,λ_ _ _ _ _ h=>ff (TN d) h,λ_ _ _ _ _ _ _ h=>ff (TQ d) h,λ_ _ _ _ _ h=>ff (TR d) h⟩
theorem TU (h:qQ c=0):chkE Γ c (.Compare l ops rs pos)=false:=by cases c<;>first|rfl|(cases h;done)
theorem Sd.x (b:∀Γ X r e,Cok Γ Κ Φ X r->chkE Γ c e=Z7->PE X e (tD X.K (aG Κ Φ c)))(a:qQ c=0):Sd Κ Φ c:=Sd.q b (λ_ _ _ _ _ _ _ _ h=>ff (TU a) h) (a▸Nat.zero_lt_two)
theorem TV:Sd Κ Φ (.var i):=Sd.x (λf X r e k h=>by obtain⟨x,p,rfl,h⟩:=jC h;obtain⟨a,b,c,d⟩:=k.aM h;exact P7 a b c d) rfl
theorem TX:Sd Κ Φ .bK:=Sd.x (λa X r e k h=>by obtain⟨_,_,rfl⟩:=vL (xv h);exact Am NK λ_ _=>rfl) rfl
theorem EJ {b:Bool}:Sd Κ Φ (.bl b):=Sd.x (λa X r e k h=>by obtain⟨_,_,rfl⟩:=vL (xv h);exact Am NJ λ_ _=>rfl) rfl
theorem TY {b:Int}:Sd Κ Φ (.int b):=Sd.x (λa X r e k h=>by obtain⟨_,_,rfl⟩:=vL (xv h);exact Am NI λ_ _=>rfl) rfl
theorem TZ {b:Str}:Sd Κ Φ (.str b):=Sd.x (λd X r e k h=>by obtain⟨a,c⟩:=aE h;obtain⟨_,_,rfl⟩:=vL (xv a);exact Am Hj λ_ _=>⟨rfl,c⟩) rfl
theorem T4:Sd Κ Φ (.glob j x):=Sd.x (λΓ X r e k h=>by
 obtain⟨y,p,rfl,h9⟩:=jC h;obtain⟨h1,h2,h3⟩:=bE h9;cases x5 h1;obtain⟨g1,g2⟩:=k.gl h2;obtain⟨d,v,u,c1,c2,c4,c3⟩:=k.cst j _ (x5 h3);cases hi:imm d with
 |true=>
  refine PE.imp (P8 g1 c2 c4 g2 hi c3) λσ H Q hq=>?_
  have ee:aG Κ Φ (.glob j x)=λ_=>.ok (.fr,d):=by
   funext ρ
   show(match Κ[j]? with|some d=>if imm d=Z7 then Res.ok (G.fr,d)else .no|none=>.no)=_;rw[c1];show(if imm d=Z7 then Res.ok (G.fr,d)else .no)=_;rw[hi];rfl
  rw[ee]at hq;exact hq
 |false=>intro pins s σ H Q I zz;obtain⟨ρ,F,z,so,e,q⟩:=zz;have e:(match Κ[j]? with|some d=>if imm d=Z7 then Res.ok (G.fr,d)else .no|none=>.no)=.ok z:=e;rw[c1]at e;have e:(if imm d=Z7 then Res.ok (G.fr,d)else .no)=.ok z:=e;rw[hi]at e;cases e) rfl
theorem T5 (d:Sd Κ Φ a)(f:Sd Κ Φ b):Sd Κ Φ (.bin o a b):=Sd.x (λc X r e k h=>by obtain⟨v,g,i⟩:=aW h;obtain⟨p,rfl⟩:=KO g;obtain⟨j,l,m,n⟩:=dC i;cases xv j;exact P9 l (d.E c X r _ k m) (f.E c X r _ k n)) rfl
theorem KS (h:chkE Γ (.cmp op a b) e=Z7):∃l r p,e=.Compare l [op] [r] p/\ze5 op=Z7/\iw op r=Z6/\chkE Γ a l=Z7/\chkE Γ b r=true:=by obtain⟨⟨l,o,rs⟩,hv,h9⟩:=aW h;obtain⟨p,rfl⟩:=yL hv;obtain⟨h1,h2⟩:=aE h9;obtain⟨r,hr,h3⟩:=aW h2;cases xv h1;cases kX hr;obtain⟨h2,h3,h4,h5⟩:=dC h3;exact⟨l,r,p,rfl,h2,eP h3,h4,h5⟩
theorem T6 (j:Sd Κ Φ a)(m:Sd Κ Φ b):Sd Κ Φ (.cmp s a b):=Sd.q (λc X r e k h=>by
 obtain⟨_,_,_,rfl,d,f,g,i⟩:=KS h;exact zvx k.hu d f (j.E c X r _ k g) (m.E c X r _ k i)) (λc X r l n rs p k h=>by
 obtain⟨_,_,_,o,d,f,g,i⟩:=KS h;cases o;exact zyd k.hu d f (j.E c X r _ k g) (m.E c X r _ k i)) Nat.one_lt_two
theorem KU (h:((Ai e).any λv=>decide (v.2.1=[o])&&(dY v.2.2).any λr=>decide (gR r=Z9 w)&&chkE Γ a v.1)=Z7):∃l k q p,e=.Compare l [o] [.Constant w k q] p/\chkE Γ a l=true:=by obtain⟨⟨l,o,rs⟩,hv,h9⟩:=aW h;obtain⟨p,rfl⟩:=yL hv;obtain⟨h1,h2⟩:=aE h9;obtain⟨r,hr,h3⟩:=aW h2;obtain⟨h4,h5⟩:=aE h3;cases xv h1;cases kX hr;obtain⟨_,_,rfl⟩:=vL (xv h4);exact⟨_,_,_,_,rfl,h5⟩
theorem T7 (d:Sd Κ Φ a):Sd Κ Φ (.lO i a):=Sd.q (λb X r e k h=>by
 obtain⟨_,_,_,_,rfl,c⟩:=KU h;exact Qa rfl (d.E b X r _ k c)) (λb X r l f rs p k h=>by
 obtain⟨_,_,_,_,g,c⟩:=KU h;cases g;exact Qb rfl (d.E b X r _ k c)) Nat.one_lt_two
theorem AW (h:xZ f g o p xs=Z7):(∃x y,xs=[x,y]/\f x=Z7/\g y=Z7)\/∃x y z r,xs=x::y::z::r/\f x=Z7/\g (.BoolOp o (y::z::r) p)=true:=by
 rcases xs with _|⟨x,_|⟨y,_|⟨z,xs⟩⟩⟩
 .cases h
 .cases h
 .exact .inl ⟨x,y,rfl,(aE h).1,(aE h).2⟩
 .exact .inr ⟨x,y,z,xs,rfl,(aE h).1,(aE h).2⟩
theorem T8 (g:Sd Κ Φ a)(i:Sd Κ Φ b):Sd Κ Φ (.and a b) where
 E:=λc X r e k h=>by
  obtain⟨⟨o,q,p⟩,j,l⟩:=aW h;cases oZ j;obtain⟨m,n⟩:=aE l;cases xv m;rcases AW n with⟨x,y,rfl,d,f⟩|⟨x,y,z,t,rfl,d,f⟩
  .exact IG (g.E c X r _ k d) (Ht (i.E c X r _ k f))
  .exact IG (g.E c X r _ k d) (i.E c X r _ k f)
 T:=λc X r e k h=>by
  obtain⟨⟨o,q,p⟩,j,l⟩:=aW h;cases oZ j;obtain⟨m,n⟩:=aE l;cases xv m;rcases AW n with⟨x,y,rfl,d,f⟩|⟨x,y,z,t,rfl,d,f⟩
  .have w:=w_and (pos:=p) (g.T c X r _ k d).1 (NP (i.T c X r _ k f).1);exact⟨w.pt,λ_=>w⟩
  .have w:=w_and (g.T c X r _ k d).1 ((i.T c X r _ k f).2 ⟨_,_,_,rfl⟩);exact⟨w.pt,λ_=>w⟩
 Q:=λ_ _ _ _ _ _ _ _ h=>ff rfl h
 A:=λ_ _ _ _ _ h=>ff rfl h
 O:=λ_ _ _ _ _ h=>ff rfl h
 W:=λ_ _ _ _ _ _ _ h=>ff rfl h
 G:=λ_ _ _ _ _ h=>ff rfl h
theorem EK (g:Sd Κ Φ a)(i:Sd Κ Φ b):Sd Κ Φ (.or a b) where
 E:=λc X r e k h=>by
  obtain⟨⟨o,q,p⟩,j,l⟩:=aW h;cases oZ j;obtain⟨m,n⟩:=aE l;cases xv m;rcases AW n with⟨x,y,rfl,d,f⟩|⟨x,y,z,t,rfl,d,f⟩
  .exact yc (g.E c X r _ k d) (Ht (i.E c X r _ k f))
  .exact yc (g.E c X r _ k d) (i.E c X r _ k f)
 T:=λc X r e k h=>by
  obtain⟨⟨o,q,p⟩,j,l⟩:=aW h;cases oZ j;obtain⟨m,n⟩:=aE l;cases xv m;rcases AW n with⟨x,y,rfl,d,f⟩|⟨x,y,z,t,rfl,d,f⟩
  .have w:=w_or (pos:=p) (g.T c X r _ k d).1 (NQ (i.T c X r _ k f).1);exact⟨w.pt,λ_=>w⟩
  .have w:=w_or (g.T c X r _ k d).1 ((i.T c X r _ k f).2 ⟨_,_,_,rfl⟩);exact⟨w.pt,λ_=>w⟩
 Q:=λ_ _ _ _ _ _ _ _ h=>ff rfl h
 A:=λ_ _ _ _ _ h=>ff rfl h
 O:=λ_ _ _ _ _ h=>ff rfl h
 W:=λ_ _ _ _ _ _ _ h=>ff rfl h
 G:=λ_ _ _ _ _ h=>ff rfl h
theorem T9 (i:Sd Κ Φ a):Sd Κ Φ (.not a) where
 E:=λb X r e k h=>by obtain⟨⟨o,x⟩,c,d⟩:=aW h;obtain⟨p,rfl⟩:=sV c;obtain⟨f,g⟩:=aE d;cases xv f;exact Qd (i.E b X r _ k g)
 T:=λb X r e k h=>by obtain⟨⟨o,x⟩,c,d⟩:=aW h;obtain⟨p,rfl⟩:=sV c;obtain⟨f,g⟩:=aE d;cases xv f;exact⟨jY (i.T b X r _ k g).1,λ⟨_,_,_,z⟩=>by cases z⟩
 Q:=λ_ _ _ _ _ _ _ _ h=>ff rfl h
 A:=λ_ _ _ _ _ h=>ff rfl h
 O:=λ_ _ _ _ _ h=>ff rfl h
 W:=λ_ _ _ _ _ _ _ h=>ff rfl h
 G:=λ_ _ _ _ _ h=>ff rfl h
theorem KW (h:Im e=Z7):∃l o r p,e=.Compare l o r p:=by cases e<;>first|exact ff rfl h|exact⟨_,_,_,_,rfl⟩
theorem EL (d:Sd Κ Φ a):Sd Κ Φ (.tv a) where
 E:=λ_ _ _ _ _ h=>ff rfl h
 T:=λb X r e k h=>by
  obtain⟨c,f⟩:=aE h;rcases gf.mp c with c|c
  .exact⟨Qe (d.E b X r _ k f) (KR c _),λ⟨_,_,_,z⟩=>by subst z;cases c⟩
  .obtain⟨_,_,_,_,rfl⟩:=KW c;exact⟨d.Q b X r _ _ _ _ k f,λ⟨_,_,_,z⟩=>by cases z⟩
 Q:=λ_ _ _ _ _ _ _ _ h=>ff rfl h
 A:=λ_ _ _ _ _ h=>ff rfl h
 O:=λb X r e k h=>by obtain⟨v,rfl,h⟩:=aW h;exact Qs (d.E b X r _ k h)
 W:=λb X r e g k _ h=>cE (d.E b X r _ k (aE h).2)
 G:=λb X r e k h=>⟨a,rfl,d.E b X r _ k h⟩
theorem T' (f:Sd Κ Φ c)(g:Sd Κ Φ a)(i:Sd Κ Φ b):Sd Κ Φ (.rP c a b):=Sd.x (λd X r e k h=>by obtain⟨v,j,l⟩:=aW h;obtain⟨p,rfl⟩:=Tw j;obtain⟨m,n,o⟩:=bE l;exact Qf (f.T d X r _ k m).1 (g.E d X r _ k n) (i.E d X r _ k o)) rfl
theorem Ua (c:Sd Κ Φ a):Sd Κ Φ (.tup a):=Sd.x (λd X r e k h=>by obtain⟨v,f,g⟩:=aW h;obtain⟨_,_,rfl⟩:=EB f;obtain⟨i,b⟩:=aE g;exact Qg (c.A d X r _ k b) λj l e=>by rw[sY Κ Φ b j l e];exact CK (xv i)) rfl
theorem Ub (c:Sd Κ Φ a):Sd Κ Φ (.lst a):=Sd.x (λd X r e k h=>by obtain⟨v,f,g⟩:=aW h;obtain⟨_,rfl⟩:=KP f;obtain⟨i,b⟩:=aE g;exact Qh (c.A d X r _ k b) λj l e=>by rw[sY Κ Φ b j l e];exact CK (xv i)) rfl
theorem Uc (f:Sd Κ Φ a)(g:Sd Κ Φ b):Sd Κ Φ (.rep a b):=Sd.x (λc X r e k h=>by obtain⟨⟨x,o,y⟩,i,j⟩:=aW h;obtain⟨p,rfl⟩:=KO i;obtain⟨l,m⟩:=aE j;obtain⟨es,n,q⟩:=aW m;obtain⟨lp,rfl⟩:=KP n;cases xv l;obtain⟨s,d,t⟩:=bE q;exact Sb (f.A c X r _ k d) (g.E c X r _ k t) λu v e=>by rw[sY Κ Φ d u v e];exact CK (xv s)) rfl
theorem Ud:Sd Κ Φ .iG:=Sd.x (λi X r e k h=>by obtain⟨⟨a,b⟩,c,d⟩:=aW h;obtain⟨_,rfl⟩:=EC c;obtain⟨f,g⟩:=aE d;cases iC f;cases iC g;exact Qi) rfl
theorem EM (d:Sd Κ Φ a)(f:Sd Κ Φ b):Sd Κ Φ (.ix a b):=Sd.x (λc X r e k h=>by obtain⟨v,g,i⟩:=aW h;obtain⟨_,rfl⟩:=ED g;obtain⟨j,l,m⟩:=bE i;exact d_ix k.hu j (d.E c X r _ k l) (f.E c X r _ k m)) rfl
theorem EN {c:C}(d:Sd Κ Φ a)(f:Sd Κ Φ c)(g:Sd Κ Φ j):Sd Κ Φ (.sl a c j):=Sd.x (λb X r e k h=>by obtain⟨⟨x,i⟩,m,n⟩:=aW h;obtain⟨_,rfl⟩:=ED m;obtain⟨⟨l,u,s⟩,hs,o⟩:=aW n;obtain⟨_,rfl⟩:=Tx hs;obtain⟨p,q,t,v⟩:=dC o;cases jq.mp p;exact d_sl (d.E b X r _ k q) (f.O b X r _ k t) (g.O b X r _ k v)) rfl
theorem Ue (i:Sd Κ Φ args):Sd Κ Φ (.call j f args):=Sd.x (λl X r e k h=>by
 obtain⟨⟨x,es⟩,n,o⟩:=aW h;obtain⟨_,_,rfl⟩:=iN n;obtain⟨a,p,q,b,s⟩:=dD o;obtain⟨y,es,rfl⟩:=vK s;obtain⟨h0,a⟩:=aE a;cases x5 a;obtain⟨g1,g2⟩:=k.gl p;obtain⟨m,kk,ps,t,u,v⟩:=k.fns j _ _ (x5 q);refine PE.imp (zp9 v (k.room h0) u (i.A l X r _ k b) (kY b) g1 g2 (sY Κ Φ b)) λz H Q g=>?_
 have w:aG Κ Φ (.call j x args)=λc=>cS Κ Φ args c>>=λd=>m (d.map (·.2))>>=λr=>.ok (gJ r.2 (fO r.1),r.2):=by
  funext c
  show(cS Κ Φ args c>>=λd=>match Φ[j]? with|some m=>m (d.map (·.2))>>=λr=>.ok (gJ r.2 (fO r.1),r.2)|none=>.no)=_;rw[t]
 rw[w]at g;exact g) rfl
theorem EO (j:Sd Κ Φ args):Sd Κ Φ (.bi f args):=Sd.x (λl X r e k h=>by
 obtain⟨⟨x,es⟩,m,n⟩:=aW h;obtain⟨_,_,rfl⟩:=iN m;obtain⟨a,o,i,b,p⟩:=dD n;obtain⟨y,es,rfl⟩:=vK p;have a:=x5 a;obtain⟨g1,g2,g3,d⟩:=k.blt o;obtain⟨i,c⟩:=aE i;have hf:=df.mp i;have g:=j.A l X r _ k b;simp at hf;rcases hf with rfl|rfl|rfl|rfl
 .exact d_cB Qt g2 (by rw[a];decide+kernel) g (kY b) g1 d g3
 .exact d_cB (Qu (k.calm (yO c rfl))) g2 (by rw[a];decide+kernel) g (kY b) g1 d g3
 .exact d_cB (Qw (k.calm (yO c rfl))) g2 (by rw[a];decide+kernel) g (kY b) g1 d g3
 .exact zyp RS g2 (by rw[a];decide+kernel) g (kY b) g1 d g3) rfl
theorem Ug {f:String}(ia:Sd Κ Φ a):Sd Κ Φ (.eF f a):=Sd.x (λΓ X r e k h=>by
 obtain⟨⟨x,es⟩,hv,h9⟩:=aW h;obtain⟨_,_,rfl⟩:=iN hv;obtain⟨h1,h2,h3,h4⟩:=dC h9;obtain⟨y,hy,k5⟩:=aW h4;obtain⟨k4,k6⟩:=aE k5;cases kX hy;have k1:=x5 h1;obtain⟨g1,g2,g3,g4⟩:=k.blt h2;obtain⟨a,rfl,ha⟩:=ia.G Γ X r _ k k6;have k7:=eP k4;obtain⟨h3,fZ⟩:=aE h3;have hf:f∈rZ:=df.mp h3;simp only[rZ,aw,eu,or_false]at hf;rcases hf with rfl|rfl|rfl|rfl|rfl|rfl
 .exact zcd Q3 g2 (by rw[k1];decide+kernel) k7 ha g1 g4 g3
 .exact zcd Q4 g2 (by rw[k1];decide+kernel) k7 ha g1 g4 g3
 .exact zdt (RO k.hu) g2 (by rw[k1];decide+kernel) k7 ha g1 g4 g3
 .exact zdt (Q6 (k.calm fZ)) g2 (by rw[k1];decide+kernel) k7 ha g1 g4 g3
 .exact zdt (RC (k.calm fZ)) g2 (by rw[k1];decide+kernel) k7 ha g1 g4 g3
 .exact zcd (Rn (k.calm fZ)) g2 (by rw[k1];decide+kernel) k7 ha g1 g4 g3) rfl
theorem Uh (ia:Sd Κ Φ a):Sd Κ Φ (.lset a):=Sd.x (λΓ X r e k h=>by obtain⟨⟨x,es⟩,hv,h9⟩:=aW h;obtain⟨_,_,rfl⟩:=iN hv;obtain⟨h1,h2,h3⟩:=bE h9;obtain⟨y,hy,k3⟩:=aW h3;obtain⟨k4,k5⟩:=aE k3;cases kX hy;obtain⟨⟨x2,oU⟩,hv2,j9⟩:=aW k5;obtain⟨_,_,rfl⟩:=iN hv2;obtain⟨j1,j2,j3⟩:=bE j9;obtain⟨y2,Ui,i3⟩:=aW j3;obtain⟨i4,i5⟩:=aE i3;cases kX Ui;have k1:=x5 h1;have l1:=x5 j1;obtain⟨fZ,h2⟩:=aE h2;obtain⟨g1,g2,g3,g4⟩:=k.blt h2;obtain⟨f1,f2,f3,f4⟩:=k.blt j2;exact zpu (k.calm fZ) k.hu g2 (by rw[k1];decide+kernel) g1 g4 g3 f2 (by rw[l1];decide+kernel) f1 f4 f3 (eP i4) (ia.E Γ X r _ k i5)) rfl
theorem Uj (c:Sd Κ Φ a):Sd Κ Φ (.iY a ts):=Sd.x (λd X r e k h=>by obtain⟨⟨x,es⟩,f,g⟩:=aW h;obtain⟨_,_,rfl⟩:=iN f;obtain⟨i,j,l⟩:=bE g;obtain⟨⟨y,t⟩,m,n⟩:=aW l;obtain⟨o,p,q⟩:=bE n;obtain⟨T,s,u⟩:=aW q;cases EG m;cases kX s;cases x5 i;obtain⟨g1,g2,g3,C⟩:=k.blt j;obtain⟨D,F,rfl,rfl,v,b⟩:=TJ u;obtain⟨w,z,A,B⟩:=k.blt v;exact zvu g2 g1 z (TK b) w B A b (eP o) (c.E d X r _ k p)) rfl
theorem ER (o:Sd Κ Φ a)(p:Sd Κ Φ args):Sd Κ Φ (.mt m a args):=Sd.x (λd X r e k h=>by
 obtain⟨⟨x,n,es,b⟩,q,s⟩:=aW h;obtain⟨C,D,rfl,t⟩:=sW q;obtain⟨h0,u,c,v⟩:=dC s;obtain⟨w,z,f,B,g⟩:=dD h0;obtain⟨y,es,rfl⟩:=vK v;cases x5 w;have i:=t.symm.trans B;have j:=o.E d X r _ k u;have l:=p.A d X r _ k c;have hm:=df.mp z;simp at hm;rcases hm with rfl|rfl
 .exact d_mt PySem.F.plainAttrs_dict PySem.F.slot_dict_get PySem.F.type_dict_get (QM k.hu) (λ_ _ _ _ _ _ r e=>QN r e) j l f (kY c) (xv g) i
 .exact d_mt PySem.F.plainAttrs_str PySem.F.slot_str_join PySem.F.type_str_join QQ (λ_ _ _ _ _ _ r e=>QR r e) j l f (kY c) (xv g) i) rfl
theorem Uk (ic:Sd Κ Φ c)(k:Cok Γ Κ Φ X n)(h:x6 (x8 c) (λt=>dZ Γ c t) ifs=Z7):pY X ifs (eA X.K (dX Κ Φ c)):=by
 cases ifs with
 |nil=>
  have:c=.nil:=by cases c<;>first|exact ff rfl h|rfl
  subst this;refine λpins s σ H Q I q=>Pg pins s σ H Q I ?_;obtain⟨ρ,F,b,so,e,q⟩:=q;cases e;exact q H (Same.refl H)
 |cons t r=>obtain⟨h1,h2⟩:=aE h;cases iC h1;exact Ph (ic.T Γ X n t k h2).1
theorem sC {c:C}(w:Sd Κ Φ it)(y:Sd Κ Φ c)(z:Sd Κ Φ f)(k:Cok l Κ Φ X r)(h:chkE l (.comp p A j q it c f) e=Z7):
  ∃el t i d a pos,e=.ListComp el [⟨t,i,d,0⟩] a pos/\BlkScope X a j p A/\(∀i∈tgIx q,i<p)/\PI X t i (tDW X.K (evW Κ Φ it))/\(∀C b s H,PG (blk X a j C b s H) t (tDG X.K q))/\(∀C b s H,pY (blk X a j C b s H) d (eA X.K (dX Κ Φ c)))/\(∀C b s H,PE (blk X a j C b s H) el (tD X.K (aG Κ Φ f)))/\(∀x,g7 i X.env x=pure x)/\l.cm=true:=by
 obtain⟨⟨el,O,a⟩,B,g⟩:=aW h;obtain⟨pos,rfl⟩:=EF B;obtain⟨⟨t,i,d,kk⟩,D,g⟩:=aW g;cases kX D;obtain⟨h0,u,F,G,g⟩:=dD g;obtain⟨m,I,J,L,M⟩:=dD h0;obtain⟨n,m⟩:=aE m;cases x5 m;have v:=Pd k.hN k.hs J;have o:=λC b s H=>k.blk v.kind (xv M) C b s H;exact⟨el,t,i,d,a,pos,rfl,v,λi N=>xv ((a9.mp I) i N),w.W l X r _ t k (aE u).2 F,λC b s H=>AV (o C b s H) (aE u).1,λC b s H=>Uk y (o C b s H) G,λC b s H=>z.E _ _ r _ (o C b s H) g,EI L _,n⟩
theorem Ul {cond:C}(ii:Sd Κ Φ it)(ic:Sd Κ Φ cond)(ie:Sd Κ Φ elt):Sd Κ Φ (.comp nt js N' tg it cond elt):=Sd.x (λΓ X r e k h=>by obtain⟨el,t,i,ifs,scope,pos,rfl,hB,h2,hi,hg,ht,he,hs,fZ⟩:=sC ii ic ie k h;exact(zjo (k.calm fZ) hB h2 hi hg ht he hs).1) rfl
theorem Um (h:((xY e).any λm=>kS (gQ f i) m.1&&(m.2.1==("items":Str))&&m.2.2.1.isEmpty&&m.2.2.2)=Z7):∃x p a c,e=.Call (.Attribute (.Name x p) "items" a) [] [] c/\gQ f i x=Z7/\(a.endLine==c.line)=true:=by obtain⟨⟨x,n,es,b⟩,g,j⟩:=aW h;obtain⟨a,c,rfl,hb⟩:=sW g;obtain⟨d,k,l,o⟩:=dC j;obtain⟨y,p,rfl,d⟩:=jC d;cases x5 k;cases iC l;exact⟨y,p,a,c,rfl,d,hb.symm.trans o⟩
theorem Uo:Sd Κ Φ (.sortI i):=Sd.x (λz X r e k h=>by obtain⟨⟨x,es⟩,c,d⟩:=aW h;obtain⟨_,_,rfl⟩:=iN c;obtain⟨a,f,g⟩:=bE d;obtain⟨y,j,l⟩:=aW g;cases kX j;obtain⟨A,B,C,D,rfl,m,n⟩:=Um l;obtain⟨b,a⟩:=aE a;cases x5 a;obtain⟨o,p,q,s⟩:=k.blt f;obtain⟨t,u,v,w⟩:=k.aM m;exact zlj (k.calm b) p (by show c9 ("sorted":Str)=_;decide+kernel) o s q t u v w n) rfl
theorem Up {b:Bool}:Sd Κ Φ (.fG b x):=Sd.x (λP X r e k h=>by obtain⟨⟨f,es⟩,j,l⟩:=aW h;obtain⟨_,_,rfl⟩:=iN j;obtain⟨m,o,p⟩:=bE l;obtain⟨⟨Q,R⟩,q,s⟩:=aW p;cases EG q;obtain⟨⟨n,c⟩,t,w⟩:=aW s;obtain⟨d,g⟩:=aE w;obtain⟨S,T,hn,d⟩:=jC d;obtain⟨C,U,y,g⟩:=jC g;cases hn;cases y;obtain⟨a1,a2,a3,a4⟩:=dC d;obtain⟨z,B,D⟩:=bE g;cases x5 m;cases x5 a1;cases x5 z;obtain⟨g1,g2,g3,V⟩:=k.blt o;obtain⟨E,F⟩:=k.gl B;obtain⟨a,W,Y,G,H,I,i⟩:=k.xc n c t;obtain⟨A,v,u,J,xa,K,L,M,N,O⟩:=k.xk.sub c x b D;rw[J]at i;cases i;exact zy7 g2 g1 G (k.hs▸x5 a2) (eP a3) H I E O M N F xa K L) rfl
theorem Uq:Sd Κ Φ .nil where
 E:=λ_ _ _ _ _ h=>ff rfl h
 T:=λ_ _ _ _ _ h=>ff rfl h
 Q:=λ_ _ _ _ _ _ _ _ h=>ff rfl h
 A:=λa X r b k h=>by cases iC h;exact IJ
 O:=λa X r e k h=>by cases jq.mp h;exact mT
 W:=λ_ _ _ _ _ _ _ h=>ff rfl h
 G:=λ_ _ _ _ _ h=>ff rfl h
theorem Ur (d:Sd Κ Φ a)(f:Sd Κ Φ b):Sd Κ Φ (.cons a b) where
 E:=λ_ _ _ _ _ h=>ff rfl h
 T:=λ_ _ _ _ _ h=>ff rfl h
 Q:=λ_ _ _ _ _ _ _ _ h=>ff rfl h
 A:=λc X r es k h=>by
  cases es with
  |nil=>cases h
  |cons e es=>obtain⟨g,i,j⟩:=bE h;exact Dl (eP g) (d.E c X r _ k i) (f.A c X r _ k j)
 O:=λ_ _ _ _ _ h=>ff rfl h
 W:=λ_ _ _ _ _ _ _ h=>ff rfl h
 G:=λ_ _ _ _ _ h=>ff rfl h
theorem Us (f:Sd Κ Φ a):Sd Κ Φ (.gM a) where
 E:=λ_ _ _ _ _ h=>ff rfl h
 T:=λ_ _ _ _ _ h=>ff rfl h
 Q:=λ_ _ _ _ _ _ _ _ h=>ff rfl h
 A:=λ_ _ _ _ _ h=>ff rfl h
 O:=λ_ _ _ _ _ h=>ff rfl h
 W:=λg X r e q k _ h=>by
  obtain⟨⟨x,d⟩,i,j⟩:=aW h;obtain⟨_,_,rfl⟩:=iN i;obtain⟨l,m,b,c⟩:=dC j;obtain⟨c,n⟩:=aE c;cases x5 l;obtain⟨o,p,s,t⟩:=k.blt m;rcases d with _|⟨x,_|⟨y,d⟩⟩
  .cases c
  .exact QC p o (eP ((a9.mp (kY b)) x (.head _))) (f.A g X r _ k b) (sY Κ Φ b)
  .exact absurd (xv n) (Nat.not_le.mpr (Nat.succ_lt_succ (my _)))
 G:=λ_ _ _ _ _ h=>ff rfl h
theorem KY (h:lU Γ (.zip a b) e=Z7):∃y z q p,e=.Call (.Name "zip" q) [y,z] [] p/\dR Γ "zip"=Z7/\isStar y=Z6/\isStar z=Z6/\chkE Γ a y=Z7/\chkE Γ b z=true:=by obtain⟨⟨x,es⟩,f,g⟩:=aW h;obtain⟨q,p,rfl⟩:=iN f;obtain⟨i,j,c⟩:=bE g;obtain⟨⟨y,z⟩,k,c⟩:=aW c;cases EG k;cases x5 i;obtain⟨d,l,m⟩:=bE c;exact⟨y,z,q,p,rfl,j,eP (aE d).1,eP (aE d).2,l,m⟩
theorem Ut (d:Sd Κ Φ a)(f:Sd Κ Φ b):Sd Κ Φ (.zip a b) where
 E:=λ_ _ _ _ _ h=>ff rfl h
 T:=λ_ _ _ _ _ h=>ff rfl h
 Q:=λ_ _ _ _ _ _ _ _ h=>ff rfl h
 A:=λ_ _ _ _ _ h=>ff rfl h
 O:=λ_ _ _ _ _ h=>ff rfl h
 W:=λc X r e s k ht h=>by obtain⟨y,z,q,p,rfl,g,i,j,l,m⟩:=KY h;obtain⟨n,o,t,u⟩:=k.blt g;exact AJ ht o n i j (d.E c X r _ k l) (f.E c X r _ k m)
 G:=λ_ _ _ _ _ h=>ff rfl h
theorem all (c:C):Sd Κ Φ c:=by
 induction c with
 |var=>exact TV
 |bK=>exact TX
 |bl=>exact EJ
 |int=>exact TY
 |str=>exact TZ
 |glob=>exact T4
 |bin _ _ _ ia ib=>exact T5 ia ib
 |cmp _ _ _ ia ib=>exact T6 ia ib
 |lO _ _ ia=>exact T7 ia
 |and _ _ ia ib=>exact T8 ia ib
 |or _ _ ia ib=>exact EK ia ib
 |not _ ia=>exact T9 ia
 |rP _ _ _ ic ia ib=>exact T' ic ia ib
 |tup _ ia=>exact Ua ia
 |lst _ ia=>exact Ub ia
 |iG=>exact Ud
 |ix _ _ ia ib=>exact EM ia ib
 |sl _ _ _ ia ib ic=>exact EN ia ib ic
 |call _ _ _ ia=>exact Ue ia
 |bi _ _ ia=>exact EO ia
 |eF _ _ ia=>exact Ug ia
 |iY _ _ ia=>exact Uj ia
 |mt _ _ _ ia ib=>exact ER ia ib
 |comp _ _ _ _ _ _ _ ia ib ic=>exact Ul ia ib ic
 |sortI=>exact Uo
 |gM _ ia=>exact Us ia
 |rep _ _ ia ib=>exact Uc ia ib
 |zip _ _ ia ib=>exact Ut ia ib
 |tv _ ia=>exact EL ia
 |fG=>exact Up
 |lset _ ia=>exact Uh ia
 |nil=>exact Uq
 |cons _ _ ia ib=>exact Ur ia ib
end
theorem zv2 (l:Addr)(xs:Array Value)(n:Nat)(b:Addr)(ys:Array Value)(m:Nat)(dd:Option Addr)(sl:Array (Option Value))(h0:¬(!xs.isEmpty&&j0 (xs.size+ys.size))=Z7)(h1:xs.size<=bj)(h2:xs.size+ys.size<=bj+1):
  Meets (Builtin.«list.extend» ⟨[.ref l,.ref b],[]⟩) (λ_ R s=>s.heap.get? l=some {cls:=.type "list",dict:=none,data:=.seq xs n,slots:=#[]}/\s.heap.get? b=some {cls:=.type "list",dict:=dd,data:=.seq ys m,slots:=sl}/\R (.ok (.ret Value.none)) {s with heap:=s.heap.update l (Obj.mapSeq λx=>x++ys)}):=
 .of_wp λprog w A R s h=>by
  obtain⟨s1,s2,s3,s4,s5⟩:=s;obtain⟨g1,g2,fin⟩:=h;have k1:=AutoSeq1.sub_list_list;have k2:=AutoSeq1.sub_list_tuple;have z:(xs++ys).size<=bj+1:=by rw[wa];omega
  wp_walk using(wpAny_updateSeq g1 rfl (hz:=h1) (_hz':=z)),wpAny_loadPart' g1,wpAny_loadPart' g2
  exact⟨_,rfl,fin⟩
section
variable {X:Cx}
def Uu (K:Z5):V->List V->Hp->VK->Prop:=λx vs H Q=>∃l b xs zs,x=.ref l/\vs=[.ref b]/\H l=Z9 (.lst xs)/\SqL K H b zs/\xs.length+zs.length<=bj/\Q .bK (upd H l (.lst (xs++zs)))
theorem Uv:Ia X "list.extend" (Uu X.K):=by
 intro pins s σ H x vs v us Q I rx rv h;obtain⟨l,b,xs,zs,rfl,rfl,hH,hB,hz,q⟩:=h;cases rx;obtain⟨u,rfl,ru⟩:=rv.one;cases ru;obtain⟨z,its,n,r,hl,e⟩:=I.lG hH;obtain⟨sZ,r2,pl,z2⟩:=I.list hB;obtain⟨o2,n2,e2,c2,d2,t2⟩:=pl;obtain⟨YI,YJ,YK,KI⟩:=o2;subst c2 d2 t2;have l2:=r2.length;have yx:its.toArray.size+sZ.toArray.size<=bj:=by rw[bn,bn];omega
 have yP:¬(!its.toArray.isEmpty&&j0 (its.toArray.size+sZ.toArray.size))=true:=by rw[Ib yx,Bool.and_false];exact c7
 refine qw PySem.F.slot_list_extend ⟨_,e,rfl⟩ PySem.F.entry_list_extend (PySem.F.args_list_extend_2 _ _) (zv2 l its.toArray n b sZ.toArray n2 _ KI yP (by omega) (by omega)) ⟨e,e2,?_⟩;refine⟨.bK,_,I.lset hH e (by simp) (r.append r2) ?_,rfl,q⟩;rw[am];omega
theorem Uw (h:rU xs ys=.ok uV):∃g zs,ys=[(g,.list zs)]/\okIn (g,.list zs)=Z7/\xs.length+zs.length<=aU/\uV=xs++zs:=by
 unfold rU at h;split at h
 .rename_i y;obtain⟨g,d⟩:=y
  dsimp only at h
  split at h
  .split at h
   .rename_i zs hc;rw[b6,decide_eq_true_iff]at hc;cases h;exact⟨g,_,rfl,hc.1,hc.2,rfl⟩
   .cases h
  .cases h
 .cases h
theorem zgq (hN:X.N[i]?=Z9 x)(hv:Vis X.env.scope x)(hd:Y4 x)(hcd:(x==("__classdict__":Str))=Z6)(ha:PA X (e::es) (tDA X.K fs))(hst:((e::es).all fun e=>!isStar e)=Z7)(hl:(e::es).length<20)(hline:(ap.endLine==cp.line)=Z7):
  PS X (.Expr (.Call (.Attribute (.Name x p) "extend" ap) (e::es) [] cp) pos) (tDS X.K (yh "extend" i fs)):=by
 have tE:=hst;rw[fq,ax]at tE;refine PS.imp (nV (zp6 PySem.F.plainAttrs_list PySem.F.slot_list_extend PySem.F.type_list_extend Uv (pW hN hv hd hcd) ha rfl (zf8 hst hl) hline (gK (by simpa using tE.1)) (nU tE.2)) rfl) λD σ H zz=>?_;obtain⟨ρ,F,out,so,e,q⟩:=zz;obtain⟨ys,e1,e⟩:=Res.aA e;split at e
 .rename_i xs hr;obtain⟨uV,e2,e⟩:=Res.aA e;cases e;obtain⟨pa,h1,hO,h⟩:=Au so hr;rcases h with⟨vs,ds,e3,e4,r⟩|⟨_,_,e3,_⟩
  .cases e3;refine⟨_,h1,.inl ⟨rfl,vs,SqL.of e4⟩,ρ,F,ys,so,e1,λus H1 s1 rs=>?_⟩;obtain⟨g,zs,rfl,hy,hlen,rfl⟩:=Uw e2;obtain⟨u,rfl,ru⟩:=rs.one;have Ij:=r.length;obtain⟨b,ws,rfl,mU,rz⟩:=lV (Ar so hy ru);have YL:=rz.length;refine⟨pa,b,vs,ws,rfl,rfl,s1 _ _ e4,mU,jX (by omega),?_⟩;have r1:=r.same s1 λ_ z=>z;exact zo7 so s1 hO h1 e4 (Reps.append r1 rz) q
  .cases e3
 .cases e
end
section
variable (Κ:List D)(Φ:List Fn)
theorem KZ:n4 (.ListComp el a s p) (Z9 (.Name t px)) n env=pure (env.blockKind==.function&&env.kindOf t==Z9 .local&&px.line==p.line&& !(s.names.any λ(n,k)=>n==t&&(k==.local||k==.cell))):=rfl
theorem Ux (hn:sD c=Z6)(h:chkE i c (.ListComp el j s p)=Z7):∃d e f g it a b,c=.comp d e f g it a b:=by cases c<;>first|exact ff rfl h|exact⟨_,_,_,_,_,_,_,rfl⟩|(cases hn;done)
theorem Uy (h:chkE a c (.SetComp el b s p)=Z7):False:=by cases c<;>exact ff rfl h
theorem Uz (h:chkE b c (.DictComp el a d s p)=Z7):False:=by cases c<;>exact ff rfl h
theorem ES (k:Cok f Κ Φ X r)(F:lT f i x=Z7)(hn:sD c=Z6)(a:chkE f c v=Z7):PS X (.Assign [.Name x px] v pos) (tDS X.K λo=>aG Κ Φ c o>>=λx=>.ok (.nx (o.set i (Z9 (z1l x))))):=by
 obtain⟨h,l2,l3⟩:=k.loc F;have nd:X.N.Nodup:=k.hN▸k.nd;cases hc:z2a v with
 |false=>exact zv1 nd h l2 l3 (uQ hc _ _ _) ((all c).E f X r _ k a)
 |true=>
  cases v<;>first|(cases hc;done)|skip
  .rename_i el L s p;cases g:(X.env.blockKind==.function&&X.env.kindOf x==Z9 .local&&px.line==p.line&& !(s.names.any λ(n,k)=>n==x&&(k==.local||k==.cell)))with
   |false=>exact zv1 nd h l2 l3 (by rw[KZ,g]) ((all c).E f X r _ k a)
   |true=>
    obtain⟨M,O,P,R,it,b,j,rfl⟩:=Ux hn a;obtain⟨G,t,S,I,l,u,e,w,h0,y,A,B,C,hs,d⟩:=sC (all it) (all b) (all j) k a;cases e;have J:X.env.scope.names.lookup x=Z9 .local:=by simp at g;exact g.1.1.2
    exact PS.imp (zh1 (k.calm d) nd h J w y A B C (by rw[KZ,g]) hs) λD m H q=>IU (λm H Q z=>(zjo (pos:=p) (k.calm d) w h0 y A B C hs).2 m H Q z) D m H q
  .exact(Uy a).elim
  .exact(Uz a).elim
theorem K0 (k:Cok Γ Κ Φ X r)(hh:x9 Γ c tg ie=Z7):PI X tg ie (tDF X.K (evF Κ Φ c))/\Ah ie=true:=by
 obtain⟨ht,h⟩:=aE hh;have hw:=(all c).W Γ X r ie tg k ht h;cases c with
 |tv a=>
  have AM:=PI.IW (k:=λρ=>fQ Κ Φ (.tv a) ρ) (DB ((all a).E Γ X r _ k (aE h).2)) (IV hw);refine⟨?_,(aE h).1⟩;cases a with
  |var i=>obtain⟨x,p,rfl,h2⟩:=jC (aE h).2;obtain⟨v1,v2,v3,v4⟩:=k.aM h2;exact PI.IW (QZ v1 v2 v3 v4) AM
  |_=>exact AM
 |zip a b=>
  obtain⟨y,z,q,p,rfl,h2,h3,h4,h5,h6⟩:=KY h;obtain⟨g1,g2,g3,g4⟩:=k.blt h2
  have ez:evF Κ Φ (.zip a b)=λρ=>(aG Κ Φ a ρ>>=λx=>aG Κ Φ b ρ>>=λy=>Res.ok [x,y])>>=λys=>jT ys ρ:=by
   funext ρ
   show((aG Κ Φ a ρ>>=λx=>(aG Κ Φ b ρ>>=λy=>Res.ok [y])>>=λxs=>Res.ok (x::xs))>>=λys=>jT ys ρ)=_;cases aG Κ Φ a ρ with
   |ok x=>cases aG Κ Φ b ρ<;>rfl
   |exc=>rfl
   |no=>rfl
  rw[ez];exact⟨D8 ht g2 g1 h3 h4 ((all a).E Γ X r _ k h5) ((all b).E Γ X r _ k h6),rfl⟩
 |gM a=>refine⟨IV hw,?_⟩;obtain⟨v,hv,_⟩:=aW h;obtain⟨_,_,rfl⟩:=iN hv;rfl
 |_=>exact ff rfl h
theorem UA (h:isTup v=Z6):uf [.Tuple a b c] v env=pure none:=by cases v<;>first|rfl|(cases h;done)
theorem tF (h:C3 s=Z9 v):∃p,s=.Assign v.1 v.2 p:=bS (q:=λv=>∃p,s=.Assign v.1 v.2 p) h (by cases s<;>first|exact .inl rfl|exact .inr ⟨_,rfl,_,rfl⟩)
theorem tG (h:C4 s=Z9 v):∃p,s=.Expr v p:=bS (q:=λv=>∃p,s=.Expr v p) h (by cases s<;>first|exact .inl rfl|exact .inr ⟨_,rfl,_,rfl⟩)
theorem yQ (h:Ir s=Z9 v):∃p,s=.Return v p:=bS (q:=λv=>∃p,s=.Return v p) h (by cases s<;>first|exact .inl rfl|exact .inr ⟨_,rfl,_,rfl⟩)
theorem yR (h:Iu s=Z9 v):∃p,s=.If v.1 v.2.1 v.2.2 p:=bS (q:=λv=>∃p,s=.If v.1 v.2.1 v.2.2 p) h (by cases s<;>first|exact .inl rfl|exact .inr ⟨_,rfl,_,rfl⟩)
theorem yS (h:Iv s=Z9 v):∃p,s=.For v.1 v.2.1 v.2.2.1 v.2.2.2 p:=bS (q:=λv=>∃p,s=.For v.1 v.2.1 v.2.2.1 v.2.2.2 p) h (by cases s<;>first|exact .inl rfl|exact .inr ⟨_,rfl,_,rfl⟩)
theorem ET (h:Iw s=Z9 v):∃p,s=.While v.1 v.2.1 v.2.2 p:=bS (q:=λv=>∃p,s=.While v.1 v.2.1 v.2.2 p) h (by cases s<;>first|exact .inl rfl|exact .inr ⟨_,rfl,_,rfl⟩)
structure Ss (s:S):Prop where
 R:∀(Γ:Gm) (X:Cx) (r:Nat) (st:Stmt),Cok Γ Κ Φ X r->iq (model X.prog X.w) X.A X.env X.xe->chk1 Γ s st=Z7->PS X st (tDS X.K (aI Κ Φ s))
 L:∀(Γ:Gm) (X:Cx) (r:Nat) (st:List Stmt),Cok Γ Κ Φ X r->iq (model X.prog X.w) X.A X.env X.xe->chkL Γ s st=Z7->PSs X st (tDS X.K (aI Κ Φ s))
def tH:S->Bool
 |.nil=>Z6
 |.seq _ _=>Z6
 |_=>Z7
variable {Κ:List D}{Φ:List Fn}
theorem Ss.x (h:∀Γ X r st,Cok Γ Κ Φ X r->iq (model X.prog X.w) X.A X.env X.xe->chk1 Γ s st=Z7->PS X st (tDS X.K (aI Κ Φ s)))(a:tH s=Z7):Ss Κ Φ s:=⟨h,by cases s<;>first|(cases a;done)|exact λ_ _ _ _ _ _ h=>ff rfl h⟩
theorem UB:Ss Κ Φ (.asg t e):=Ss.x (λd X r st k w h=>by
 obtain⟨⟨z,v⟩,f,g⟩:=aW h;obtain⟨p,rfl⟩:=tF f;obtain⟨x,j,l⟩:=aW g;cases kX j;obtain⟨a,m,n,c⟩:=dC l;cases t with
 |nm i=>obtain⟨y,q,rfl,o⟩:=jC a;exact ES Κ Φ k o (eP m) c
 |tp is=>obtain⟨s,u⟩:=aE n;obtain⟨es,b,_⟩:=aW (aE a).2;obtain⟨_,_,rfl⟩:=EB b;exact zq0 (AV k a) ((all e).E d X r _ k c) ((show ue [_] _ _ _=n4 _ _ _ _ from rfl).trans (uQ (eP s) _ _ _)) (UA (eP u)) rfl) rfl
theorem UC:Ss Κ Φ (.eD i a b):=Ss.x (λc X r st k B h=>by obtain⟨⟨C,v⟩,d,e⟩:=aW h;obtain⟨p,rfl⟩:=tF d;obtain⟨x,hx,f⟩:=aW e;cases kX hx;obtain⟨⟨y,D⟩,g,j⟩:=aW f;obtain⟨_,rfl⟩:=ED g;obtain⟨l,F,m,n,o⟩:=dD j;obtain⟨z,q,rfl,s⟩:=jC l;obtain⟨t,u,w,A⟩:=k.aM s;exact zz6 k.hu t u w A (eP m) ((all a).E c X r _ k n) ((all b).E c X r _ k o)) rfl
theorem zvl:Ss Κ Φ (.mut m i args):=Ss.x (λΓ X r st k hp h=>by
 obtain⟨c,hv,h9⟩:=aW h;obtain⟨p,rfl⟩:=tG hv;obtain⟨⟨x,n,es,b⟩,hm,h8⟩:=aW h9;obtain⟨ap,cp,rfl,hb⟩:=sW hm;obtain⟨h0,h6,h7⟩:=bE h8;obtain⟨h1,h2,h3,h4,h5⟩:=dD h0;obtain⟨z,q,hz,k1⟩:=jC h1;cases hz;obtain⟨y,es,rfl⟩:=vK h6;cases x5 h2;have hm:=df.mp h3;simp only[eu,aw,or_false]at hm;obtain⟨v1,v2,v3,v4⟩:=k.aM k1;rcases hm with rfl|rfl
 .exact zh8 v1 v2 v3 v4 ((all args).A Γ X r _ k h7) (kY h7) (xv h5) (hb.symm.trans h4)
 .exact zgq v1 v2 v3 v4 ((all args).A Γ X r _ k h7) (kY h7) (xv h5) (hb.symm.trans h4)) rfl
theorem UD:Ss Κ Φ (.drop e):=Ss.x (λa X r st k g h=>by obtain⟨v,b,c⟩:=aW h;obtain⟨p,rfl⟩:=tG b;obtain⟨d,f⟩:=aE c;exact QW (eP d) ((all e).E a X r _ k f)) rfl
theorem UE:Ss Κ Φ (.ret e):=Ss.x (λb X r st k s h=>by
 obtain⟨o,c,d⟩:=aW h;obtain⟨p,rfl⟩:=yQ c;obtain⟨v,rfl,a⟩:=aW d;have g:=(all e).E b X r _ k a;cases e with
 |var i=>obtain⟨x,q,rfl,f⟩:=jC a;obtain⟨j,l,m,n⟩:=k.aM f;exact z3o j l m n
 |_=>exact QV g) rfl
theorem EU (f:Ss Κ Φ a)(g:Ss Κ Φ b):Ss Κ Φ (.bP c a b):=Ss.x (λd X r st k e h=>by obtain⟨v,i,j⟩:=aW h;obtain⟨p,rfl⟩:=yR i;obtain⟨l,m,n⟩:=bE j;exact Dt ((all c).T d X r _ k l).1 (f.L d X r _ k e m) (g.L d X r _ k e n)) rfl
theorem UG (d:Ss Κ Φ b):Ss Κ Φ (.aX t it b):=Ss.x (λe X r st k c h=>by obtain⟨a,h⟩:=aE h;obtain⟨⟨t,i,B,o⟩,f,g⟩:=aW h;obtain⟨p,rfl⟩:=yS f;obtain⟨j,l,m,n⟩:=dC g;cases iC n;obtain⟨hf,hn⟩:=K0 Κ Φ k l;exact zvg c (k.calm a) hf (AV k j) (d.L e X r _ k c m) (EI hn _)) rfl
theorem tI (e:Ss Κ Φ b):Ss Κ Φ (.wh n c b):=Ss.x (λa X r st k d h=>by obtain⟨⟨t,B,o⟩,f,g⟩:=aW h;obtain⟨p,rfl⟩:=ET f;obtain⟨i,j,l⟩:=bE g;cases iC l;exact Q0 d ((all c).T a X r _ k i).1 (e.L a X r _ k d j)) rfl
theorem UH (is:Ss Κ Φ s):Ss Κ Φ (.uT s):=Ss.x (λΓ X r st k hp h=>PS.imp (is.R Γ X r st k hp h) λD σ H zz=>by
 obtain⟨ρ,F,out,so,e,q⟩:=zz;have e:(if noOwn ρ then aI Κ Φ s (ρ.map settle)else aI Κ Φ s (ρ.map cV))=.ok out:=e;cases hn:noOwn ρ with
 |false=>rw[hn]at e;exact⟨_,_,out,so.cV,e,q.back ⟨so.ext,rfl,rfl⟩ λa o e _=>⟨e,rfl⟩⟩
 |true=>rw[hn]at e;exact⟨_,_,out,so.settle hn,e,q.back ⟨so.ext,rfl,rfl⟩ λa o e _=>⟨e,rfl⟩⟩) rfl
theorem Cok.cX (k:Cok Γ Κ Φ X r)(E:Value->ao->Prop):Cok Γ Κ Φ (X.cX E) r:=⟨k.hN,k.hs,k.nd,k.fn,k.kind,k.free,k.fns,k.cst,k.mV,k.room,k.calm,k.hu,k.yN,k.KQ,λn c z=>by obtain⟨a,oe,C,h1,h2,h3,h4⟩:=k.xc n c z;exact⟨a,oe,C,h1,λp σ H s I=>h2 p σ H s I.bR,h3,h4⟩,k.xk⟩
theorem EV (e:C6 h=Z9 v):∃a b,h=.ExceptHandler (Z9 (.Name v.1 a)) (Z9 v.2.1) v.2.2 b:=by
 unfold C6 at e;split at e
 .cases e;exact⟨_,_,rfl⟩
 .cases e
theorem EW (e:vTr s=Z9 v):∃p cp ep np hp pos,s=.Try [.Expr (.Call (.Name v.1 p) v.2.1 [] cp) ep] [.ExceptHandler (Z9 (.Name v.2.2.1 np)) (Z9 v.2.2.2.1) v.2.2.2.2 hp] [] [] pos:=by
 unfold vTr at e;split at e
 .obtain⟨u,h1,h2⟩:=kb.mp e;obtain⟨x,h3,rfl⟩:=dj.mp h2;obtain⟨q,p,rfl⟩:=iN h1;obtain⟨np,hp,rfl⟩:=EV h3;exact⟨_,_,_,_,_,_,rfl⟩
 .cases e
theorem EX (e:C5 s=Z9 v):∃a b pos,s=.Raise (Z9 (.Call (.Name v.1 a) v.2 [] b)) Z8 pos:=by
 unfold C5 at e;split at e
 .obtain⟨q,p,rfl⟩:=iN e;exact⟨_,_,_,rfl⟩
 .cases e
theorem AX (s:S):Ss Κ Φ s:=by
 induction s with
 |nil=>exact⟨λ_ _ _ _ _ _ h=>ff rfl h,λΓ X r st k hp h=>by cases iC h;exact QS⟩
 |seq a b ia ib=>
  refine⟨λ_ _ _ _ _ _ h=>ff rfl h,λΓ X r st k hp h=>?_⟩;cases st with
  |nil=>cases h
  |cons s st=>exact QT (ia.R Γ X r _ k hp (aE h).1) (ib.L Γ X r _ k hp (aE h).2)
 |asg=>exact UB
 |uT s is=>exact UH is
 |pZ=>refine Ss.x (λΓ X r st k hp h=>?_) rfl;intro pins s σ H D I q;obtain⟨ρ,F,out,so,e,_⟩:=q;cases e
 |eD=>exact UC
 | «mut»=>exact zvl
 |drop=>exact UD
 |ret=>exact UE
 |bP _ _ _ ia ib=>exact EU ia ib
 |aX _ _ _ ib=>exact UG ib
 |wh _ _ _ ib=>exact tI ib
theorem sL (Κ:List D)(Φ:List Fn)(s:S):∀a X r st,Cok a Κ Φ X r->iq (model X.prog X.w) X.A X.env X.xe->chkL a s st=Z7->PSs X st (tDS X.K (aI Κ Φ s)):=(AX s).L
end
section
variable (Κ:List D)(Φ:List Fn)
structure Se (c:C):Prop where
 E:∀(Γ:Gm) (X:Cx) (r:Nat) (e:Expr),Cok Γ Κ Φ X r->chkE Γ c e=Z7->PE X e (tR X (mR Κ Φ c))
 A:∀(Γ:Gm) (X:Cx) (r:Nat) (es:List Expr),Cok Γ Κ Φ X r->dB Γ c es=Z7->PA X es (tRA X (qD Κ Φ c))
 T:∀(Γ:Gm) (X:Cx) (r:Nat) (e:Expr),Cok Γ Κ Φ X r->dZ Γ c e=Z7->PT X e (vH X (uW Κ Φ c))
variable {Κ Φ}
theorem yT (h:∀ρ,mR Κ Φ c ρ=Z8):PE X e (tR X (mR Κ Φ c)):=λpins s σ H Q I z=>(yJ h σ H z).elim
theorem EY (h:∀ρ,qD Κ Φ c ρ=Z8):PA X e (tRA X (qD Κ Φ c)):=λpos pins s σ H Q I z=>(yJ h σ H z).elim
theorem yU (h:∀ρ,uW Κ Φ c ρ=Z8):PT X e (vH X (uW Κ Φ c)):=λpins s σ H Q I z=>(yJ h σ H z).elim
theorem Se.no (h1:∀ρ,mR Κ Φ c ρ=Z8)(h2:∀ρ,qD Κ Φ c ρ=Z8)(h3:∀ρ,uW Κ Φ c ρ=Z8):Se Κ Φ c:=⟨λ_ _ _ _ _ _=>yT h1,λ_ _ _ _ _ _=>EY h2,λ_ _ _ _ _ _=>yU h3⟩
theorem vM (ia:Se Κ Φ args):Se Κ Φ (.call j f args) where
 E:=λΓ X r e k h=>by
  obtain⟨⟨x,es⟩,hv,h9⟩:=aW h;obtain⟨_,_,rfl⟩:=iN hv;obtain⟨h1,h2,h3,h4,h5⟩:=dD h9;obtain⟨y,es,rfl⟩:=vK h5;obtain⟨h0,h1⟩:=aE h1;cases x5 h1;obtain⟨g1,g2⟩:=k.gl h2;obtain⟨m,kk,ps,c1,c2,c3⟩:=k.mV j _ _ (x5 h3);refine PE.imp (zmo c3 (k.room h0) c2 ((all args).A Γ X r _ k h4) (ia.A Γ X r _ k h4) (kY h4) g1 g2 (sY Κ Φ h4)) λσ H Q hq=>?_
  have ee:mR Κ Φ (.call j x args)=λρ=>match(cS Κ Φ args ρ:Res (List GD))with|.ok ys=>excOf (m (lx (λ(y:GD)=>y.2) ys))|_=>qD Κ Φ args ρ:=by
   funext ρ
   show(match(cS Κ Φ args ρ:Res (List GD))with|.ok ys=>(match Φ[j]? with|some m=>excOf (m (lx (λ(y:GD)=>y.2) ys))|none=>Z8)|_=>qD Κ Φ args ρ)=_;rw[c1]
  rw[ee]at hq;exact hq
 A:=λ_ _ _ _ _ h=>ff rfl h
 T:=λ_ _ _ _ _ h=>ff rfl h
theorem pA (c:C):Se Κ Φ c:=by
 induction c with
 |call _ _ _ ia=>exact vM ia
 |cons a r ia ir=>
  refine⟨λ_ _ _ _ _ h=>ff rfl h,λΓ X n es k h=>?_,λ_ _ _ _ _ h=>ff rfl h⟩;cases es with
  |nil=>cases h
  |cons e es=>obtain⟨h1,h2,h3⟩:=bE h;exact S8 (eP h1) ((all a).E Γ X n _ k h2) (ia.E Γ X n _ k h2) (ir.A Γ X n _ k h3)
 |not a ia=>refine⟨λ_ _ _ _ _ _=>yT λ_=>rfl,λ_ _ _ _ _ h=>ff rfl h,λΓ X r e k h=>?_⟩;obtain⟨⟨o,x⟩,hv,h9⟩:=aW h;obtain⟨p,rfl⟩:=sV hv;obtain⟨h1,h2⟩:=aE h9;cases xv h1;exact S9 (ia.T Γ X r _ k h2)
 |tv a ia=>
  refine⟨λ_ _ _ _ _ h=>ff rfl h,λ_ _ _ _ _ h=>ff rfl h,λΓ X r e k h=>?_⟩;obtain⟨h1,h2⟩:=aE h;rcases gf.mp h1 with h1|h1
  .exact S' (ia.E Γ X r _ k h2) (KR h1 _)
  .obtain⟨_,_,_,_,rfl⟩:=KW h1;cases a<;>first|exact yU λ_=>rfl|exact ff rfl h2
 |_=>exact Se.no (λ_=>rfl) (λ_=>rfl) λ_=>rfl
variable (Κ Φ)
structure Sq (s:S):Prop where
 R:∀(Γ:Gm) (X:Cx) (r:Nat) (st:Stmt),Cok Γ Κ Φ X r->iq (model X.prog X.w) X.A X.env X.xe->chk1 Γ s st=Z7->PS X st (tRS X (kR Κ Φ s))
 L:∀(Γ:Gm) (X:Cx) (r:Nat) (st:List Stmt),Cok Γ Κ Φ X r->iq (model X.prog X.w) X.A X.env X.xe->chkL Γ s st=Z7->PSs X st (tRS X (kR Κ Φ s))
variable {Κ Φ}
theorem Sq.x (h:∀(Γ:Gm) (X:Cx) (r:Nat) (st:Stmt),Cok Γ Κ Φ X r->iq (model X.prog X.w) X.A X.env X.xe->chk1 Γ s st=Z7->PS X st (tRS X (kR Κ Φ s)))(hx:tH s=Z7):Sq Κ Φ s:=⟨h,by cases s<;>first|(cases hx;done)|exact λ_ _ _ _ _ _ h=>ff rfl h⟩
theorem Sq.no (h:∀ρ,kR Κ Φ s ρ=Z8)(hx:tH s=Z7):Sq Κ Φ s:=Sq.x (λΓ X r st k hp hc pins sh σ H D I z=>(yJ h σ H z).elim) hx
theorem UI (h:Iy e=Z7):∃z k p,e=.Constant (.str z) k p:=by obtain⟨c,hc,h⟩:=aW h;obtain⟨k,p,rfl⟩:=vL hc;cases c<;>first|(cases h;done)|exact⟨_,_,_,rfl⟩
theorem EZ (s:S):Sq Κ Φ s:=by
 induction s with
 |nil=>exact⟨λ_ _ _ _ _ _ h=>ff rfl h,λΓ X r st k hp h=>by cases iC h;exact Tj⟩
 |seq a b ia ib=>
  refine⟨λ_ _ _ _ _ _ h=>ff rfl h,λΓ X r st k hp h=>?_⟩;cases st with
  |nil=>cases h
  |cons s st=>exact Tf ((AX a).R Γ X r _ k hp (aE h).1) (ia.R Γ X r _ k hp (aE h).1) (ib.L Γ X r _ k hp (aE h).2)
 |bP c a b ia ib=>refine Sq.x (λΓ X r st k hp h=>?_) rfl;obtain⟨v,hv,h9⟩:=aW h;obtain⟨p,rfl⟩:=yR hv;obtain⟨h1,h2,h3⟩:=bE h9;exact Te ((all c).T Γ X r _ k h1).1 ((pA c).T Γ X r _ k h1) (ia.L Γ X r _ k hp h2) (ib.L Γ X r _ k hp h3)
 |aX t it b ib=>refine Sq.x (λΓ X r st k hp h=>?_) rfl;obtain⟨fZ,h⟩:=aE h;obtain⟨⟨t,i,B,o⟩,hv,h9⟩:=aW h;obtain⟨p,rfl⟩:=yS hv;obtain⟨h1,h2,h3,h4⟩:=dC h9;cases iC h4;obtain⟨hf,hn⟩:=K0 Κ Φ k h2;exact zpo hp (k.calm fZ) hf (AV k h1) ((AX b).L Γ X r _ k hp h3) (ib.L Γ X r _ k hp h3) (EI hn _)
 |drop e=>refine Sq.x (λΓ X r st k hp h=>?_) rfl;obtain⟨v,hv,h9⟩:=aW h;obtain⟨p,rfl⟩:=tG hv;obtain⟨h1,h2⟩:=aE h9;exact Ta (eP h1) ((pA e).E Γ X r _ k h2)
 |ret e=>refine Sq.x (λΓ X r st k hp h=>?_) rfl;obtain⟨o,hv,h9⟩:=aW h;obtain⟨p,rfl⟩:=yQ hv;obtain⟨v,rfl,h8⟩:=aW h9;exact Td ((pA e).E Γ X r _ k h8)
 |asg t e=>
  cases t with
  |tp is=>exact Sq.no (λ_=>rfl) rfl
  |nm i=>
   cases e with
   |call j f args=>
    refine Sq.x (λΓ X r st k hp h=>?_) rfl;obtain⟨⟨ts,v⟩,hv,h9⟩:=aW h;obtain⟨p,rfl⟩:=tF hv;obtain⟨x,hx,h8⟩:=aW h9;cases kX hx;obtain⟨h1,h2,h3,h4⟩:=dC h8;obtain⟨y,q,rfl,h5⟩:=jC h1;obtain⟨l1,l2,l3⟩:=k.loc h5;have hc:z2a v=false:=by obtain⟨u,hu,_⟩:=aW h4;obtain⟨_,_,rfl⟩:=iN hu;rfl
    exact Tc (by rw[k.hN];exact k.nd) l1 l2 l3 hc ((pA _).E Γ X r _ k h4)
   |_=>exact Sq.no (λ_=>rfl) rfl
 |pZ c=>refine Sq.x (λΓ X r st k hp h=>?_) rfl;obtain⟨⟨x,es⟩,hv,h9⟩:=aW h;obtain⟨np,cp,pos,rfl⟩:=EX hv;obtain⟨h1,h2,h3,h4,h5⟩:=dD h9;obtain⟨y,hy,h6⟩:=aW h5;cases kX hy;obtain⟨z,kk,p,rfl⟩:=UI h6;cases x5 h1;obtain⟨g1,g2⟩:=k.gl h2;obtain⟨C,m1,xC⟩:=k.xk.rs x h3;exact Tn (k.room h4).hd g1 m1 g2 xC
 |_=>exact Sq.no (λ_=>rfl) rfl
end
section
variable {P:b9}{w:World}{K:Z5}{mg:Str->Option Value}{base:Heap}
structure Dok (Γ:Gm)(Κ:List D)(Φ:List Fn)(P:b9)(w:World)(K:Z5)(mg:Str->Option Value)(base:Heap)(k:Nat):Prop where
 free:∀x,Γ.free.contains x=Z7->mg x=Z8
 fns:∀(j:Nat) f n,Γ.fns[j]?=Z9 (f,n)->∃m k' ps,Φ[j]?=Z9 m/\k'<=k/\Cal P w K mg base k' f ps (spD K n m)
 cst:∀(j:Nat) x,Γ.cst[j]?=Z9 x->∃d v u,Κ[j]?=Z9 d/\mg x=Z9 u/\RelV v u/\∀H B,B Z8->Rep K H B v d
 mV:∀(j:Nat) f n,Γ.fns[j]?=Z9 (f,n)->∃m k' ps,Φ[j]?=Z9 m/\k'<=k/\CalX P w K mg base k' f ps n m
 xk:sX Γ K mg
theorem E1 (r:Reps K H A f b):StOk K ⟨H,λa=>H a=Z8\/A (Z9 a),λ_=>Z8,A Z8⟩ H (f.map Z9++bp (n-f.length) Z8) (b.map (λd=>Z9 (.od,d))++bp (n-b.length) Z8) where
 ext:=Same.refl H
 aM:=λa e=>.inl e
 own:=λa i e=>by cases e
 len:=by have:=r.length;simp;omega
 sl:=λi g d e=>by
  rw[n8]at e;split at e
  .rename_i j;rw[bt]at e;cases c:b[i]? with
   |none=>rw[c]at e;cases e
   |some m=>
    rw[c]at e;cases e;obtain⟨v,k,l⟩:=Reps.get r c;refine⟨v,?_,?_⟩
    .rw[n8,xp (by rw[af,r.length];rw[af]at j;exact j),bt,k];rfl
    .refine(Rep.there _ l).weak λa h=>?_;cases a with
     |none=>exact h.1
     |some a=>exact⟨λz=>h.2 z,.inr h.1⟩
  .rw[gu]at e;split at e<;>cases e
theorem K1 (e:(match kR Κ Φ s ρ with|some c=>Res.exc (.str c)|none=>.no)=Res.ok x):False:=by cases h:kR Κ Φ s ρ<;>rw[h]at e<;>cases e
theorem d_fn {st:Stmt}(Fu:Fun K x x st f fd)(Sc:FnScope Γ.N ps (z09 st))(hs:Γ.sc=z09 st)(hb:Γ.blk=Z6)(hxc:Γ.xc=Z8)(dk:Dok Γ Κ Φ P w K mg base k)(hc:chkL Γ s (z0o st)=Z7):
  FnOk P w K mg base iU (k+1) f fd ps (spD K ps.length (aP Κ Φ Γ.N.length s)):=by
 refine Fu.ok Sc (λvs H Q E h=>h.choose_spec.choose_spec.choose_spec.1) λiV A outer s1 H vs Q E hr kW=>?_;obtain⟨B,ds,r,hl,rs,e,q⟩:=kW;refine⟨_,sL Κ Φ s Γ (eW iU P w K mg base Γ.N x (z09 st) f iV A outer s1 H E).pX k _ ⟨rfl,hs.symm,Sc.nd,λ_ _=>rfl,by rw[hs];exact Sc.kind,dk.free,dk.fns,dk.cst,dk.mV,λ_=>hr,λ_=>rfl,hr.units,λ_=>⟨rfl,rfl⟩,λ_=>rfl,λ_ _ z=>(by rw[hxc]at z;cases z),dk.xk⟩ PassesOwn.never hc,?_⟩;unfold aP at e;have so:=E1 (n:=Γ.N.length) rs;generalize ho:aI Κ Φ s (ds.map (λd=>Z9 (.od,d))++bp (Γ.N.length-ds.length) Z8)=out at e
 match out,ho,e with
 |.ok (.nx ρ'),ho,e=>cases e;refine⟨_,_,_,so,ho,λσ' H' F' qJ ru fr=>q .bK H' (λa o e=>(fr a o e rfl).1) rfl⟩
 |.ok (.rt g d),ho,e=>
  cases e;refine⟨_,_,_,so,ho,λv H' hk rv=>q v H' hk (rv.weak λa h=>?_)⟩;cases g with
  |fr=>cases a<;>exact h
  |nu=>cases a<;>exact h
  |od=>cases a with
   |none=>exact .inr h
   |some a=>exact h.elim .inl λz=>.inr z
  |al=>cases a with
   |none=>exact .inr h
   |some a=>exact h.elim .inl λz=>.inr z
 |.exc _,ho,e=>exact(K1 e).elim
 |.no,ho,e=>exact(K1 e).elim
theorem zwb {st:Stmt}(Fu:Fun K x x st f fd)(Sc:FnScope Γ.N ps (z09 st))(hs:Γ.sc=z09 st)(hb:Γ.blk=Z6)(hxc:Γ.xc=Z8)(dk:Dok Γ Κ Φ P w K mg base k)(hc:chkL Γ s (z0o st)=Z7):
  FnOk P w K mg base (AQ P w base) (k+1) f fd ps (AS K mg ps.length (aP Κ Φ Γ.N.length s)):=by
 obtain⟨oc,od,kV,doc,pm,an,iV,ct,Cq,rfl,lk,hcd⟩:=Fu.ex;refine zlv lk hcd Sc (λvs H Q E h=>h.choose_spec.choose_spec.choose_spec.1) λA outer s1 H vs Q E hr kW=>?_;obtain⟨B,ds,c,hl,rs,e,q⟩:=kW;refine⟨_,(EZ s).L Γ (eW (AQ P w base) P w K mg base Γ.N x (z09 st) f iV A outer s1 H E) k _ ⟨rfl,hs.symm,Sc.nd,λ_ _=>rfl,by rw[hs];exact Sc.kind,dk.free,dk.fns,dk.cst,dk.mV,λ_=>hr,λ_=>rfl,hr.units,λ_=>⟨rfl,rfl⟩,λ_=>rfl,λ_ _ z=>(by rw[hxc]at z;cases z),dk.xk⟩ PassesOwn.leaving hc,?_⟩;have so:=E1 (n:=Γ.N.length) rs;refine⟨_,_,c,so,?_,?_⟩
 .unfold aP at e;split at e
  .cases e
  .cases e
  .split at e
   .rename_i h;cases e;exact h
   .cases e
 .refine⟨λpins σ H1 s2 a C args h' I hm hS hx=>?_,λpins σ H1 s2 a C H' s' I hm hS fl=>?_⟩
  .exact zbz I hx rfl rfl rfl λs3 fl=>⟨a,C,Z8,H1,rfl,fl,q C H1 hm hS⟩
  .exact fl.leave (outer:=[]) I rfl rfl rfl λs3 fl=>⟨a,C,Z8,H',rfl,fl,q C H' hm hS⟩
theorem UJ {ns:List Int}(h:SqL K H a (ns.map V.int)):Reps K H (λ_=>True) [.ref a] [.list (ns.map .int)]:=by
 refine⟨_,_,rfl,⟨a,ns.map V.int,rfl,?_,?_⟩,rfl⟩
 .rcases h with(h|h)|h
  .exact .inl ⟨h,trivial⟩
  .exact .inr ⟨.inl h,trivial⟩
  .exact .inr ⟨.inr h,trivial⟩
 .clear h
  induction ns with
  |nil=>rfl
  |cons n ns b=>exact⟨_,_,rfl,rfl,b⟩
end
section
variable {X:Cx}{pins:List (Addr×Obj)}{σ:L2.St}{H:Hp}{s:ao}{i:Nat}{n:Str}{a:Addr}{oe:Obj}
abbrev yV (o:Obj):HO:=.eU o (.own 0)
theorem UK (I:Inv X pins σ H s)(hn:H a=Z8)(ho:s.heap.get? a=Z9 oe)(h0:X.s₀.heap.get? a=Z8)(h1:a≠X.env.locals)(h2:∀v,oe.data≠.cell v)(h3:∀p∈X.pn++pins,p.1≠a):Inv X pins σ (upd H a (yV oe)) s:=by
 have ne:∀b v,H b=Z9 v->upd H a (yV oe) b=Z9 v:=λb v q=>by rw[aS (λz=>by subst z;rw[hn]at q;cases q)];exact q
 refine⟨I.ok,I.os,I.bare,⟨I.base.keep,I.base.slot,λb q e1 e2 e3=>?_,I.base.there,λb xs q=>ne b _ (I.base.cN b xs q),λb u v q=>ne b _ (I.base.bZ b u v q),λb ps q=>?_⟩,I.loc,I.cell,?_,λx c h=>?_,λp hp=>?_,λb u q=>?_,I.len,I.fx⟩
 .rw[aS (λz=>by subst z;rw[h0]at e1;cases e1)];exact I.base.free b q e1 e2 e3
 .obtain⟨more,e⟩:=I.base.cO b ps q;exact⟨more,ne b _ e⟩
 .rw[aS (λz=>h1 z.symm)];exact I.free
 .rw[aS (λz=>?_)]
  .exact I.bD x c h
  .obtain⟨v,o,e,d⟩:=I.cell x c h;rw[z,ho]at e;cases e;exact h2 v d
 .obtain⟨a1,a2,a3⟩:=I.pin p hp;exact⟨a1,by rw[aS (λz=>h3 p hp z)];exact a2,a3⟩
 .by_cases hb:b=a
  .subst hb;rw[bQ]at q;cases q;exact⟨ho,_,ho⟩
  .rw[aS hb]at q;exact(I.hok b u q).stay (λc v _ q=>q) (λc q=>ne c _ q) λc xs q=>ne c _ q
def AY (X:Cx)(i:Nat)(n:Str)(a:Addr):Cx:={X with N:=X.N.set i "",fx:=Z9 (n,.ref a)}
theorem UL (ok:X.Ok)(nd:X.N.Nodup)(hi:X.N[i]?=Z9 n)(hv:X.env.scope.names.lookup ("":Str)=Z8)(hl:X.env.scope.names.lookup n=Z9 .local):(AY X i n a).Ok:=by
 refine⟨ok.mod,ok.kind,ok.glob,ok.blt,ok.above,ok.inj,ok.has,ok.pU,ok.hd,ok.frames,ok.qZ,ok.rA,ok.bs,ok.iS,ok.gD,ok.gF,ok.cP,ok.nO,λx u z=>?_⟩;cases z;refine⟨λhm=>?_,hl⟩;obtain⟨j,hj⟩:=dm.mp hm;have hj:(X.N.set i "")[j]?=Z9 n:=hj;by_cases e:i=j
 .subst e;rw[cz (bc.mp hi).1]at hj;cases hj;rw[hv]at hl;cases hl
 .rw[bz e]at hj;exact e (wQ nd hi hj)
theorem UM (I:Inv X pins σ H s)(nd:X.N.Nodup)(hi:X.N[i]?=Z9 n)(hv:X.env.scope.names.lookup ("":Str)=Z8)(hl:X.env.scope.names.lookup n=Z9 .local)(hσ:σ[i]?=Z9 (Z9 (.ref a))):Inv (AY X i n a) pins (σ.set i Z8) H s:=by
 obtain⟨m,hn,AZ⟩:=I.loc;refine⟨UL I.ok nd hi hv hl,I.os,I.bare,I.base,⟨m,hn,λj x v e1 e2 e3=>?_⟩,I.cell,I.free,I.bD,I.pin,I.hok,?_,λx u z=>?_⟩
 .have e1:(X.N.set i "")[j]?=Z9 x:=e1;by_cases e:i=j
  .subst e;rw[cz (by rw[I.len];exact(bc.mp hi).1)]at e2;cases e2
  .rw[bz e]at e1 e2;exact AZ j x v e1 e2 e3
 .show(σ.set i Z8).length=(X.N.set i "").length;rw[cu,cu];exact I.len
 .cases z;obtain⟨u,r,q⟩:=AZ i n (.ref a) hi hσ (.inl hl);cases r;rcases q with⟨_,q⟩|⟨k,_⟩
  .exact⟨m,hn,q⟩
  .have k:X.env.scope.names.lookup n=Z9 .cell\/X.env.scope.names.lookup n=Z9 .free:=k;rcases k with k|k<;>(rw[hl]at k;cases k)
theorem UN (ok:X.Ok)(hx:X.fx=Z8)(hi:X.N[i]?=Z9 n)(I:Inv (AY X i n a) pins σ H s):Inv X pins (σ.set i Z8) H s:=by
 obtain⟨m,hn,AZ⟩:=I.loc;have hlen:σ.length=(X.N.set i "").length:=I.len;rw[cu]at hlen;refine⟨ok,I.os,I.bare,I.base,⟨m,hn,λj x v e1 e2 e3=>?_⟩,I.cell,I.free,I.bD,I.pin,I.hok,by rw[cu];exact hlen,λx u z=>by rw[hx]at z;cases z⟩;by_cases e:i=j
 .subst e;rw[cz (by rw[hlen];exact(bc.mp hi).1)]at e2;cases e2
 .rw[bz e]at e2;exact AZ j x v (show(X.N.set i "")[j]?=Z9 x by rw[bz e];exact e1) e2 e3
theorem UO (h:X.eV a=Z9 (yV oe)):Xh X a oe:=λ_ _ _ _ I=>(I.hok a _ (I.base.bZ a oe _ h)).1
end
section
variable {P:b9}{w:World}{K:Z5}{mg:Str->Option Value}{base:Heap}
def spE (mg:Str->Option Value)(c:Str)(r:Bool):Sp:=λvs H Q _=>∃a oe C,vs=[.ref a]/\H a=Z9 (yV oe)/\oe.cls=.ref C/\mg c=Z9 (.ref C)/\∀H',Same H H'->Q (.bl r) H'
theorem UP (hl:σ.length=N):StOk K ⟨H,λa=>H a=Z8\/True,λ_=>Z8,True⟩ H σ (bp N Z8) where
 ext:=Same.refl H
 aM:=λa e=>.inl e
 own:=λa i e=>by cases e
 len:=by rw[dz];exact hl
 sl:=λi g d e=>by rw[gu]at e;split at e<;>cases e
theorem zxn {st:Stmt}(Fu:Fun K x x st f fd)(Sc:FnScope N [p] (z09 st))(h0:N[0]?=Z9 p)(hN:Γ.N=N.set 0 "")(nd:(N.set 0 "").Nodup)(hs:Γ.sc=z09 st)(hb:Γ.blk=Z6)(hf:Γ.fns=[])(hcs:Γ.cst=[])(hxc:Γ.xc=Z9 (p,c))
  (hv:(z09 st).names.lookup ("":Str)=Z8) (hl:(z09 st).names.lookup p=Z9 .local) (free:∀y,Γ.free.contains y=Z7->mg y=Z8) (xk:sX Γ K mg) (hc:chkL Γ s (z0o st)=Z7) (he:aI [] [] s (bp N.length Z8)=.ok (.rt g (.bool r))):FnOk P w K mg base iU (k+1) f fd [p] (spE mg c r):=by
 refine Fu.ok Sc (λvs H Q E h=>by obtain⟨_,_,_,rfl,_⟩:=h;rfl) λiV A outer s1 H vs Q E hr kW=>?_;obtain⟨a,oe,C,rfl,hH,eO,hm,q⟩:=kW;refine⟨λD σ H1=>σ=start N [.ref a]/\H1=H/\∀H',Same H H'->D.rt (.bl r) H',?_,rfl,rfl,q⟩;intro pins s2 σ H1 D I hq;obtain⟨rfl,rfl,hq⟩:=hq;have K2:(start N [V.ref a])[0]?=Z9 (Z9 (.ref a)):=rfl;have I2:=UM I Sc.nd h0 hv hl K2;have len:((start N [V.ref a]).set 0 Z8).length=N.length:=by rw[cu];exact I.len
 have so:StOk K ⟨H1,λa=>H1 a=Z8\/True,λ_=>Z8,True⟩ H1 ((start N [V.ref a]).set 0 Z8) (bp N.length Z8):=UP len;have h:=sL [] [] s Γ (AY (eW iU P w K mg base N x (z09 st) f iV A outer s1 H1 E).pX 0 p a) k _ ⟨hN.symm,hs.symm,by rw[hN];exact nd,λ_ _=>rfl,by rw[hs];exact Sc.kind,free,λj _ _ z=>(by rw[hf]at z;simp at z),λj _ z=>(by rw[hcs]at z;simp at z),λj _ _ z=>(by rw[hf]at z;simp at z),λ_=>hr,λ_=>rfl,hr.units,λ_=>⟨rfl,rfl⟩,λz=>(by rw[hxc]at z;cases z),λn' c' z=>(by rw[hxc]at z;cases z;exact⟨a,oe,C,rfl,UO hH,eO,hm⟩),xk⟩ PassesOwn.never hc;refine jg (h pins s2 _ H1 ⟨λ_ _=>False,D.rt,λ_ _=>False,λ_ _=>False⟩ I2 ⟨_,_,_,so,he,λv H' hk rv=>?_⟩) (λfl s9 h9=>?_) λe s' z=>z
 .have ev:v=.bl r:=rv;subst ev;exact hq H' hk
 .cases fl with
  |ret u=>obtain⟨v,σ',H',J,rv,qv⟩:=h9;exact⟨v,_,H',UN I.ok rfl h0 J,rv,qv⟩
  |next=>obtain⟨_,_,_,z⟩:=h9;exact z.elim
  |brk=>obtain⟨_,_,_,z⟩:=h9;exact z.elim
  |cont=>obtain⟨_,_,_,z⟩:=h9;exact z.elim
end
section
variable {X:Cx}{pins:List (Addr×Obj)}{σ:L2.St}{H:Hp}{s:ao}{i j:Nat}{n y c:Str}{r:Bool}
def Hs (mg:Str->Option Value)(c:Str)(j:Nat)(σ:L2.St)(H:Hp):Prop:=∃a oe C,σ[j]?=Z9 (Z9 (.ref a))/\H a=Z9 (yV oe)/\oe.cls=.ref C/\mg c=Z9 (.ref C)
theorem zmn (Co:Cal X.prog X.w X.K X.mg X.base k g [pr] (spE X.mg c r))(hr:Room k' X.A)(hk:k<=k')(hg:Gl X g)(hdb:Y4 g)(hN:X.N[j]?=Z9 y)(hv:Vis X.env.scope y)(hd:Y4 y)(hcd:(y==("__classdict__":Str))=Z6):
  PS X (.Return (Z9 (.Call (.Name g gp) [.Name y yp] [] cp)) pos) (λD σ H=>Hs X.mg c j σ H/\∀H',Same H H'->D.rt (.bl r) H'):=
 PS.imp (zX (za1 Co hr (xA (pW hN hv hd hcd) mM) rfl hk hg hdb)) λD σ H zz=>by obtain⟨⟨a,oe,C,h1,h2,h3,h4⟩,q⟩:=zz;exact⟨.ref a,h1,a,oe,C,rfl,h2,h3,h4,q⟩
theorem zop {C D:Addr}(I:Inv X pins σ H1 s1)(sm:Same H1 H')(fl:Fly X.prog X.w X.base X.stack H1 s1 C a H' s' Z8)(hs:X.stack=X.env::X.outer)(hf:X.env.frame=Z9 X.env.locals)(hex:X.ex=[])(hx:X.fx=Z8)(nd:X.N.Nodup)(hi:X.N[i]?=Z9 n)(hv:X.env.scope.names.lookup ("":Str)=Z8)(hl:X.env.scope.names.lookup n=Z9 .local)(hdn:Y4 n)
  (E2:(X.N.set i "").Nodup) (qP:i≠j) (hj:X.N[j]?=Z9 y) (tJ:X.env.scope.names.lookup y=Z9 .local) (hc:X.mg c=Z9 (.ref C))
  (hB:X.mg B=Z9 (.ref D)) (xC:kH X.K C=Z7) (xD:kH X.K D=Z7) (sb:Z4 X.K (.ref C) (.ref D)=Z9 Z7) (E3:Gl X B) (E4:Y4 B)
  (q:∀σ' kJ,Same H1 kJ->Hs X.mg c j σ' kJ->Dn.nx σ' kJ):
  wpAny (model X.prog X.w) X.A (o8 (.ref a) X.env) (λ_ s2=>wpAny (model X.prog X.w) X.A (t6 (.ref a) Z8) (λ_ s3=>wpAny (model X.prog X.w) X.A (handleBy (.ref a) X.env [.ExceptHandler (Z9 (.Name B np)) (Z9 n) [.Assign [.Name y yp] (.Name n ep) ap] hp]) (SP X pins Dn) X.xe s3) X.xe s2) X.xe s':=by
 have yI:X.A.frames=Z9 (X.env::X.outer):=by rw[<-hs];exact I.ok.frames
 obtain⟨B0,UQ,UR,AR,w0⟩:=fl.hh;have K3:=w0;rw[hs]at K3;have mk:∀h6,FlD B0 (X.env::X.outer) a (.ref C) Z8 h6->s'.heap.UpToSlots h6->Fly X.prog X.w X.base X.stack H1 s1 C a H' {s' with heap:=h6} none:=λh6 w6 up=>by refine⟨fl.os,fl.bare,fl.cN,fl.bZ,fl.cO,fl.free,⟨B0,UQ,UR,AR,by rw[hs];exact w6⟩,λb o e z hb=>?_⟩;obtain⟨sl,e1⟩:=fl.slot b o e z hb;obtain⟨_,o3,e3,yW⟩:=I.stack.mem hb;rw[e]at e3;cases e3;obtain⟨Ez,e4⟩:=up b _ e1 yW;exact⟨Ez,e4⟩
 refine za3 yI hf K3 λh4 held K4=>?_;refine KG held λh5 w5 K5=>?_;have f5:=mk h5 w5 (K4.trans K5);have I5:=f5.inv I;refine wpAny_handleBy_cons (codeAny_handlers_test ?_) (by intro z;cases z);refine lb I5.ok.kind E3 (qf (by rw[I5.ok.glob];exact I5.mod.glob.keeps I5.bk) hB ?_) E4;obtain⟨YM,oC,cC⟩:=XC.mk I5.eN xC;obtain⟨YN,oD,_⟩:=XC.mk I5.eN xD;obtain⟨ob,_,US,E5,_⟩:=w5.first;refine SY oC oD US E5 (cC _ _ sb) ?_;refine codeAny_handlers_suite_as (S5 w5 λh6 w6 UT=>?_);have f6:=mk h6 w6 ((K4.trans K5).trans UT);have I6:=f6.inv I;obtain⟨oe,vs,A0,E6,UU,pB⟩:=w6.first;refine z4o I6 nd hi (.inl hl) (v:=.ref a) rfl (λs7 I7 ch=>?_) (.inr hl);obtain⟨ad,UW,UX⟩:=ch;have nL:a≠X.env.locals:=λz=>by obtain⟨_,o3,e3,yW⟩:=I6.stack.mem (by rw[hs,c8,hf];exact ah);rw[<-z]at e3;rw[A0]at e3;cases e3;exact yW vs pB
 have nF:a∉X.fs:=λz=>by obtain⟨_,o3,e3,yW⟩:=I6.cP.mem z;rw[A0]at e3;cases e3;exact yW vs pB
 have nA:a≠ad:=λz=>by
  rcases UX with h|h
  .exact nL (z.trans h)
  .obtain⟨v,oc,uM,nR⟩:=I6.cell n ad h;rw[<-z]at uM;rw[A0]at uM;cases uM;rw[pB]at nR;cases nR
 have UY:=(UW.2 a nA).trans A0;have eB:i<σ.length:=by rw[I.len];exact(bc.mp hi).1
 have yX:=Tu f6;have qR:∀v,oe.data≠.cell v:=λv z=>by rw[pB]at z;cases z
 have yY:s1.heap.get? a=none:=by
  cases e:s1.heap.get? a with
  |none=>rfl
  |some o=>
   cases hn:H1 a with
   |some u=>rw[sm a u hn]at yX;cases yX
   |none=>
    have UZ:a∉frs X.stack:=λz=>by
     rw[hs]at z;unfold frs at z;rw[c8,hf]at z;rcases aw.mp z with z|z
     .exact nL z
     .exact nF z
    obtain⟨_,this,_⟩:=AR a o e UZ;rw[w0.2.1]at this;cases this
 have E7:X.s₀.heap.get? a=none:=by
  cases e:X.s₀.heap.get? a with
  |none=>rfl
  |some o=>obtain⟨o',e'⟩:=I.base.there a o e (by rw[hex];simp);rw[yY]at e';cases e'
 have nP:∀p∈X.pn++pins,p.1≠a:=λp hp z=>by have:=(I.pin p hp).1;rw[z,yY]at this;cases this
 have I8:=zrl I7 nd hi hv hl (cz eB) UY yX nL nF qR;rw[v7]at I8
 have I9:=I8.dM λp hp=>by
  rcases aw.mp hp with rfl|hp
  .exact I8.pin _ (cx _ ah)
  .exact I8.pin p (aq _ hp)
 have U0:(vJ X i n a oe).N[j]?=Z9 y:=by show(X.N.set i "")[j]?=Z9 y;rw[bz qP];exact hj
 have st:=xP (pos:=ap) (pos':=yp) E2 U0 (.inl tJ) (KN (p:=ep) rfl hl hdn) rfl (.inr tJ);have run:=Hu st ((a,oe)::pins) s7 (σ.set i Z8) H' ⟨λσ' kJ=>σ'=(σ.set i Z8).set j (Z9 (.ref a))/\kJ=H',λ_ _=>False,λ_ _=>False,λ_ _=>False⟩ I9 ⟨rfl,rfl⟩;refine jg run (λsQ s9 h9=>?_) λ_ _ z=>z.elim;have en:=ze2 (M:=model X.prog X.w) (D2:=⟨λσ' kJ=>σ'=(σ.set i Z8).set j (Z9 (.ref a))/\kJ=H',λ_ _=>False,λ_ _=>False,λ_ _=>False⟩) (Dn:=⟨λσ' kJ=>σ'=((σ.set i Z8).set j (Z9 (.ref a))).set i Z8/\kJ=H',λ_ _=>False,λ_ _=>False,λ_ _=>False⟩) (pos:=hp) (E:=X.xe) I.ok hx nd hi hl (λσ' kJ z=>⟨by rw[z.1],z.2⟩) (λ_ _ z=>z) (λ_ _ z=>z) (λ_ _ z=>z) h9;refine jg en (λ_ YO A1=>?_) λ_ _ z=>z;cases sQ with
 |next=>
  obtain⟨σ',kJ,E8,rfl,rfl⟩:=A1;have pa:=E8.pin (a,oe) (aq _ ah);have U1:=E8.dM λp hp=>E8.pin p (aq _ (av _ hp));have U2:=UK U1 pa.2.1 pa.1 E7 nL qR nP;refine⟨_,_,U2,q _ _ (λb o e=>?_) ⟨a,oe,C,?_,bQ,E6,hc⟩⟩
  .rw[aS (λz=>by subst z;rw[sm b o e]at yX;cases yX)];exact sm b o e
  .rw[bz qP,cz (by rw[cu,I.len];exact(bc.mp hj).1)]
 |ret u=>obtain⟨_,_,_,_,_,z⟩:=A1;exact z.elim
 |brk=>obtain⟨_,_,_,z⟩:=A1;exact z.elim
 |cont=>obtain⟨_,_,_,z⟩:=A1;exact z.elim
end
structure Gd where
 kf:Nat
 args:C
 c:Str
 i:Nat
 j:Nat
 g:Str
 r:Bool
def gZ (Φ:List Fn)(n:Nat)(pre:S)(d:Gd)(ds:List D):Res GD:=match aI [] Φ pre (ds.map (λd=>Z9 (.od,d))++bp (n-ds.length) Z8)with
 |.ok (.nx ρ)=>(match cS [] Φ d.args ρ with
  |.ok ys=>(match Φ[d.kf]? with
   |some m=>if excOf (m (ys.map (·.2)))=Z9 d.c then .ok (.fr,.bool d.r)else .no
   |none=>.no)
  |_=>.no)
 |_=>.no
section
variable {X:Cx}{i j:Nat}{n y c:Str}
theorem ztw {C D:Addr}
  (Cx:CalX X.prog X.w X.K X.mg X.base k2 f YQ nn m) (hr:Room k' X.A) (yE:k2<=k') (ha:∀E,PA (X.cX E) (e::es) (tDA X.K fs)) (hst:((e::es).all λe=>!isStar e)=Z7) (hg:Gl X f) (hdb:Y4 f) (hlen:∀ρ ys,fs ρ=.ok ys->ys.length=nn)
  (hs:X.stack=X.env::X.outer) (hf:X.env.frame=Z9 X.env.locals) (hex:X.ex=[]) (hx:X.fx=Z8) (nd:X.N.Nodup) (hi:X.N[i]?=Z9 n) (hv:X.env.scope.names.lookup ("":Str)=Z8) (hl:X.env.scope.names.lookup n=Z9 .local) (hdn:Y4 n)
  (E2:(X.N.set i "").Nodup) (qP:i≠j) (hj:X.N[j]?=Z9 y) (tJ:X.env.scope.names.lookup y=Z9 .local)
  (hc:X.mg c=Z9 (.ref C)) (hB:X.mg B=Z9 (.ref D)) (xC:kH X.K C=Z7) (xD:kH X.K D=Z7) (sb:Z4 X.K (.ref C) (.ref D)=Z9 Z7) (E3:Gl X B) (E4:Y4 B):
  PS X (.Try [.Expr (.Call (.Name f p) (e::es) [] cp) ep] [.ExceptHandler (Z9 (.Name B np)) (Z9 n) [.Assign [.Name y yp] (.Name n np2) ap] hp] [] [] pos) (λDn σ H=>∃ρ F ys,StOk X.K F H σ ρ/\fs ρ=.ok ys/\excOf (m (ys.map (·.2)))=Z9 c/\∀σ' H',Same H H'->Hs X.mg c j σ' H'->Dn.nx σ' H'):=by
 intro pins s σ H Dn I hq;obtain⟨ρ,F,ys,so,e2,e3,q⟩:=hq;refine wpAny_Try_except ?_;generalize hE:(λ(e:Value) (rB:ao)=>wpAny (model X.prog X.w) X.A (o8 e X.env) (λ_ rC=>wpAny (model X.prog X.w) X.A (t6 e Z8) (λ_ E9=>wpAny (model X.prog X.w) X.A (handleBy e X.env [.ExceptHandler (Z9 (.Name B np)) (Z9 n) [.Assign [.Name y yp] (.Name n np2) ap] hp]) (SP X pins Dn) X.xe E9) X.xe rC) X.xe rB)=E;have h1:=z57 (X:=X.cX E) (p:=p) (pos:=cp) Cx hr yE (ha E) hst hg hdb hlen (I.cX E) so e2 e3 λH1 s1 C' a H' s' I1 z1 q1 sm fl=>by have e6:=q1;rw[hc]at e6;cases e6;rw[<-hE];exact zop I1.bR sm fl hs hf hex hx nd hi hv hl hdn E2 qP hj tJ hc hB xC xD sb E3 E4 λσ' kJ z hh=>q σ' kJ (λb o e=>z b o (z1 b o e)) hh
 exact nz (wpAny_Expr_any (aN h1 λ_ _ z=>z.elim) I.quiet (uQ rfl _ _ _))
end
def vSv:List Stmt->Option (Str×Str)
 | [.Assign [.Name y _] (.Name n _) _]=>Z9 (y,n)
 |_=>Z8
def vRg:Stmt->Option (Str×Str)
 |.Return (Z9 (.Call (.Name g _) [.Name y _] [] _)) _=>Z9 (g,y)
 |_=>Z8
theorem U3 (h:vSv l=Z9 v):∃yp np ap,l=[.Assign [.Name v.1 yp] (.Name v.2 np) ap]:=by
 unfold vSv at h;split at h
 .cases h;exact⟨_,_,_,rfl⟩
 .cases h
theorem U4 (h:vRg s=Z9 v):∃gp yp cp pos,s=.Return (Z9 (.Call (.Name v.1 gp) [.Name v.2 yp] [] cp)) pos:=by
 unfold vRg at h;split at h
 .cases h;exact⟨_,_,_,_,rfl⟩
 .cases h
def zmy (Γ:Gm)(pre:S)(d:Gd):List Stmt->Bool
 | [s0,t,rt]=>chk1 Γ pre s0&&(vTr t).any fun v=>(vSv v.2.2.2.2).any fun u=>(vRg rt).any fun w=>
   (Γ.cm&&(Γ.xc.isNone&& !Γ.blk)&&(Γ.N[d.i]?==Z9 v.2.2.2.1)&&(Γ.sc.names.lookup v.2.2.2.1==Z9 .local)&&decide (Γ.N.set d.i "").Nodup)&&
   ((Γ.sc.names.lookup ("":Str)).isNone&&mS Γ v.2.2.1&&Γ.lS.contains (d.c,v.2.2.1)&&mS Γ v.1&&mS Γ d.g)&&
   ((Γ.fns[d.kf]?==Z9 (v.1,v.2.1.length))&&dB Γ d.args v.2.1&& !v.2.1.isEmpty&&(u==(w.2,v.2.2.2.1))&&(w.1==d.g))&&
   (decide (d.i≠d.j)&&(Γ.N[d.j]?==Z9 w.2)&&(Γ.sc.names.lookup w.2==Z9 .local)&& !(v.2.2.2.1==("__debug__":Str))&&(!(w.2==("__debug__":Str))&& !(w.2==("__classdict__":Str))))
 |_=>Z6
theorem U5 (h:gZ Φ n pre d ds=.ok x):∃ρ ys m,aI [] Φ pre (ds.map (λd=>Z9 (.od,d))++bp (n-ds.length) Z8)=.ok (.nx ρ)/\cS [] Φ d.args ρ=.ok ys/\Φ[d.kf]?=Z9 m/\excOf (m (ys.map (·.2)))=Z9 d.c/\x=(.fr,.bool d.r):=by
 unfold gZ at h;split at h
 .rename_i ρ e;split at h
  .rename_i ys e2;split at h
   .rename_i m e3;split at h
    .rename_i hz;cases h;exact⟨ρ,ys,m,e,e2,e3,hz,rfl⟩
    .cases h
   .cases h
  .cases h
 .cases h
theorem U6:excOf (gZ Φ n pre d ds)=none:=by
 unfold gZ;split
 .split
  .split
   .split<;>rfl
   .rfl
  .rfl
 .rfl
section
variable {P:b9}{w:World}{K:Z5}{mg:Str->Option Value}{base:Heap}
theorem zva {st:Stmt}(Fu:Fun K x x st f fd)(Sc:FnScope Γ.N ps (z09 st))(hs:Γ.sc=z09 st)(hb:Γ.blk=Z6)(hxc:Γ.xc=Z8)(dk:Dok Γ [] Φ P w K mg base k)(hc:zmy Γ pre d (z0o st)=Z7)(Cg:Cal P w K mg base kg d.g [pr] (spE mg d.c d.r))(hkg:kg<=k):
  FnOk P w K mg base iU (k+1) f fd ps (spD K ps.length (gZ Φ Γ.N.length pre d)):=by
 refine Fu.ok Sc (λvs H Q E h=>h.choose_spec.choose_spec.choose_spec.1) λiV A outer s1 H vs Q E hr kW=>?_;obtain⟨B,ds,xx,hl,rs,e,q⟩:=kW;obtain⟨ρ1,ys,m,e1,e2,e3,e4,rfl⟩:=U5 e;generalize YR:z0o st=bd at hc;unfold zmy at hc;split at hc
 .rename_i s0 t rt;obtain⟨h0,k1⟩:=aE hc;obtain⟨⟨f',es,Bn,n,su⟩,hv,k2⟩:=aW k1;obtain⟨⟨u1,u2⟩,hu,k3⟩:=aW k2;obtain⟨⟨g',y⟩,hw,k4⟩:=aW k3;obtain⟨p,cp,ep,np,As,pos,rfl⟩:=EW hv;obtain⟨gp,yp,U7,Fb,rfl⟩:=U4 hw;obtain⟨k5,h4⟩:=aE k4;obtain⟨h1,h2,h3⟩:=bE k5;obtain⟨a1,a2,a3,a4,a5⟩:=dD h1;obtain⟨b1,b2,b3,b4,b5⟩:=dD h2;obtain⟨c1,c2,c3,c4,c5⟩:=dD h3;obtain⟨d1,d2,d3,d4,d5⟩:=dD h4;obtain⟨d6,d7⟩:=aE d5;obtain⟨U8,np2,ap,rfl⟩:=U3 hu;have K6:(u1,u2)=(y,n):=x5 c4;have U9:=(x5 c5).symm;have U':=(congrArg xn K6).symm;have Va:=(congrArg wb K6).symm;subst U';subst Va;subst U9;obtain⟨e0,es,rfl⟩:=vK c3;have kk:Cok Γ [] Φ (eW iU P w K mg base Γ.N x (z09 st) f iV A outer s1 H E).pX k:=⟨rfl,hs.symm,Sc.nd,λ_ _=>rfl,by rw[hs];exact Sc.kind,dk.free,dk.fns,dk.cst,dk.mV,λ_=>hr,λ_=>rfl,hr.units,λ_=>⟨rfl,rfl⟩,λ_=>rfl,λ_ _ z=>(by rw[hxc]at z;cases z),dk.xk⟩;obtain⟨g1,g2⟩:=kk.gl b4;obtain⟨g3,g4⟩:=kk.gl b2;obtain⟨g5,g6⟩:=kk.gl b5;obtain⟨C,D,m1,m2,x1,x2,sb⟩:=kk.xk.lS d.c Bn b3;obtain⟨m',YS,YT,n1,n2,n3⟩:=kk.mV d.kf _ _ (x5 c1);rw[e3]at n1;cases n1;have tJ:(z09 st).names.lookup y=Z9 .local:=by rw[<-hs];exact x5 d3
  have sO:=(AX pre).R Γ _ k s0 kk PassesOwn.never h0;have rO:=ztw (p:=p) (cp:=cp) (ep:=ep) (np:=np) (hp:=As) (pos:=pos) (yp:=U8) (np2:=np2) (ap:=ap) n3 hr n2 (λE=>(all d.args).A Γ _ k _ (kk.cX E) c2) (kY c2) g1 g2 (sY [] Φ c2) rfl rfl rfl rfl Sc.nd (x5 a3) (by have:=jq.mp b1;rw[hs]at this;exact this) (by have:=x5 a4;rw[hs]at this;exact this) (eP d4) (xv a5) (xv d1) (x5 d2) tJ m1 m2 x1 x2 sb g3 g4;have Ac:=zmn (X:=(eW iU P w K mg base Γ.N x (z09 st) f iV A outer s1 H E).pX) (gp:=gp) (yp:=yp) (cp:=U7) (pos:=Fb) Cg hr hkg g5 g6 (x5 d2) (.inl tJ) (eP d6) (eP d7);refine⟨_,zW sO (zW rO (Hu Ac)),?_⟩;have so:=E1 (n:=Γ.N.length) rs;refine⟨_,_,_,so,e1,λσ' H' F' qJ ru fr=>⟨_,_,ys,qJ,e2,e4,λwX H2 z hh=>⟨hh,λH3 z3=>q (.bl d.r) H3 (λa o e=>z3 a o (z a o (fr a o e rfl).1)) rfl⟩⟩⟩
 .cases hc
theorem zu6 {Γ:Gm}{st:Stmt}(Fu:Fun K x x st f fd)(Sc:FnScope Γ.N ps (z09 st)):
  FnOk P w K mg base (AQ P w base) (k+1) f fd ps (AS K mg ps.length (gZ Φ Γ.N.length pre d)):=by
 obtain⟨oc,od,kV,doc,pm,an,iV,ct,Cq,rfl,lk,hcd⟩:=Fu.ex;refine zlv lk hcd Sc (λvs H Q E h=>h.choose_spec.choose_spec.choose_spec.1) λA outer s1 H vs Q E hr kW=>?_;obtain⟨B,ds,c,hl,rs,e,q⟩:=kW;rw[U6]at e;cases e
end
structure XR where
 c:Str
 cs:List (Str×Bool)
 B:Str
def XR.subs (r:XR):List (Str×Str×Bool):=(r.c,"ValueError",Z7)::r.cs.map λy=>(r.c,y.1,y.2)
def A2 (K:Z5)(A:Addr):List (Str×Bool)->Prop
 | []=>True
 |y::l=>(∃D dd cd sl,W.nsIn K ci y.1=Z9 (Z9 (.ref D))/\K.lookup D=Z9 ⟨.type "type",dd,.cls cd,sl⟩/\Z4 K (.ref A) (.ref D)=Z9 y.2)/\A2 K A l
structure Kx (K:Z5)(r:XR)(A D:Addr):Prop where
 a:W.nsIn K ci r.c=Z9 (Z9 (.ref A))
 l:∃dd cd sl,K.lookup A=Z9 ⟨.type "type",dd,.cls cd,sl⟩
 e:W.excIn K A [.type "ValueError",.type "Exception",.type "BaseException",.type "object"] "ValueError.__new__"=Z7
 cl:W.findIn K (.ref A) "__class__"=Z9 (Z9 (.builtin "object.__class__"))
 ga:W.findIn K (.ref A) "__getattribute__"=Z9 (Z9 (.builtin "BaseException.__getattribute__"))
 gt:W.findIn K (.ref A) "__getattr__"=Z9 Z8
 ob:Z4 K (.ref A) (.type "object")=Z9 Z7
 be:Z4 K (.ref A) (.type "BaseException")=Z9 Z7
 v:Z4 K (.ref A) (.type "ValueError")=Z9 Z7
 b:W.nsIn K ci r.B=Z9 (Z9 (.ref D))
 f:W.excIn K D [.type "ValueError",.type "Exception",.type "BaseException",.type "object"] "ValueError.__new__"=Z7
 s:Z4 K (.ref A) (.ref D)=Z9 Z7
 cs:A2 K A r.cs
def vN (K:Z5):List XR->Prop
 | []=>True
 |r::l=>(∃A D,Kx K r A D)/\vN K l
theorem A3 {K:Z5}:∀{l:List XR} {r:XR},vN K l->r∈l->∃A D,Kx K r A D
 | [],_,_,z=>nomatch z
 |_::_,_,h,.head _=>h.1
 |_::_,_,h,.tail _ z=>A3 h.2 z
theorem K7 {K:Z5}:∀{l:List (Str×Bool)} {y:Str×Bool},A2 K A l->y∈l->∃D a cd sl,W.nsIn K ci y.1=Z9 (Z9 (.ref D))/\K.lookup D=Z9 ⟨.type "type",a,.cls cd,sl⟩/\Z4 K (.ref A) (.ref D)=Z9 y.2
 | [],_,_,z=>nomatch z
 |_::_,_,h,.head _=>h.1
 |_::_,_,h,.tail _ z=>K7 h.2 z
theorem A4 {K:Z5}{D:Addr}(l:K.lookup D=Z9 ⟨.type "type",a,.cls cd,sl⟩):W.typeIn K (.ref D)=Z9 (.type "type")/\(W.clsIn K D).isSome=true:=by
 constructor
 .show(K.lookup D).map (·.cls)=_;rw[l];rfl
 .unfold W.clsIn;rw[l];rfl
theorem Vb {K:Z5}(X:K.In h)(G:h.Ns ci mg)(g:vN K d)(o:d≠[]->mg "ValueError"=Z8)(p:i.sub=(d.map XR.subs).flatten)(t:i.rs=d.map (·.c))(u:i.lS=d.map λr=>(r.c,r.B)):sX i K mg:=by
 refine⟨λc C b z=>?_,λc z=>?_,λc B z=>?_⟩
 .rw[p]at z;obtain⟨l,x,z⟩:=qi.mp (df.mp z);obtain⟨r,hr,rfl⟩:=a6.mp x;obtain⟨A,D,k⟩:=A3 g hr;obtain⟨M,cd,sl,j⟩:=k.l;have xa:XA K A:=⟨k.cl,k.ga,k.gt,k.ob,k.be,(A4 j).1,(A4 j).2,(AO k.e).1⟩;rcases aw.mp z with e|z
  .cases e;exact⟨A,.ty "ValueError",.type "ValueError",W.mg_of X G k.a,xa,XV.val,k.v,rfl,λw q=>q,.inr ⟨o (λq=>by rw[q]at hr;cases hr),by decide+kernel,by decide⟩⟩
  .obtain⟨y,E,e⟩:=a6.mp z;cases e;obtain⟨m,F,H,I,J,n,L⟩:=K7 k.cs E;exact⟨A,.ref m,.ref m,W.mg_of X G k.a,xa,XV.own (A4 n).1 (A4 n).2,L,rfl,λw q=>q,.inl (W.mg_of X G J)⟩
 .rw[t]at z;obtain⟨r,hr,rfl⟩:=a6.mp (df.mp z);obtain⟨A,D,k⟩:=A3 g hr;exact⟨A,W.mg_of X G k.a,k.e⟩
 .rw[u]at z;obtain⟨r,hr,e⟩:=a6.mp (df.mp z);cases e;obtain⟨A,D,k⟩:=A3 g hr;exact⟨A,D,W.mg_of X G k.a,W.mg_of X G k.b,(AO k.e).1,(AO k.f).1,k.s⟩
inductive Kd where
 |n
 |e (c:Str) (r:Bool)
 |g (d:Gd) (je:Nat)
inductive Kc where
 |t (ws:List Str)|i (n:Int)
structure aQ where
 nm:Str
 st:Stmt
 N:List Str
 ps:List Str
 free:List Str
 fns:List Nat
 s:S
 F:Fn
 kd:Kd
 kc:List (Str×Kc):=[]
def cD (y:Str×Kc):D:=match y.2 with
 |.t ws=>.tuple (ws.map .str)
 |.i n=>.int n
def sig (Rs:List aQ)(j:Nat):Str×Nat:=match Rs[j]? with
 |some c=>(c.nm,c.ps.length)
 |none=>("",0)
def fnAt (Rs:List aQ)(j:Nat):Fn:=match Rs[j]? with
 |some c=>c.F
 |none=>λ_=>.no
def aQ.G (Rs:List aQ)(xt:List XR)(r:aQ):Gm:={N:=r.N,sc:=z09 r.st,free:=r.free,fns:=r.fns.map (sig Rs),cst:=r.kc.map (·.1),sub:=(xt.map XR.subs).flatten,rs:=xt.map (·.c),lS:=xt.map λr=>(r.c,r.B)}
def aQ.GE (xt:List XR)(r:aQ)(c:Str):Gm:={N:=r.N.set 0 "",sc:=z09 r.st,free:=r.free,fns:=[],cst:=[],xc:=Z9 (r.ps.headD "",c),sub:=(xt.map XR.subs).flatten,rs:=xt.map (·.c),lS:=xt.map λr=>(r.c,r.B)}
def Fc (s:S)(n:Nat)(b:Bool):Bool:=match aI [] [] s (bp n Z8)with
 |.ok (.rt _ (.bool b'))=>b'==b
 |_=>Z6
def Kd.fG:Kd->Bool
 |.e _ _=>Z7
 |_=>Z6
def nE (Rs:List aQ)(j:Nat):Bool:=match Rs[j]? with
 |some c=>!c.kd.fG
 |none=>Z7
def gE (Rs:List aQ)(d:Gd)(j:Nat):Bool:=match Rs[j]? with
 |some z=>(z.nm==d.g)&&decide (z.ps.length=1)&&(match z.kd with|.e c b=>(c==d.c)&&(b==d.r)|_=>Z6)
 |none=>Z6
def aQ.part (Rs:List aQ)(xt:List XR)(i:Nat)(r:aQ):Bool:=match r.kd with
 |.n=>chkL (r.G Rs xt) r.s (z0o r.st)
 |.e c b=>(decide (r.ps=[r.ps.headD ""])&&(r.N[0]?==Z9 (r.ps.headD ""))&&decide (r.N.set 0 "").Nodup&&((z09 r.st).names.lookup ("":Str)).isNone&&((z09 r.st).names.lookup (r.ps.headD "")==Z9 .local))&&chkL (r.GE xt c) r.s (z0o r.st)&&Fc r.s r.N.length b
 |.g d je=>zmy (r.G Rs xt) r.s d (z0o r.st)&&decide (je<i)&&(gE Rs d je&&r.kc.isEmpty)
def aQ.ok (Rs:List aQ)(xt:List XR)(fr:List Str)(i:Nat)(r:aQ):Bool:=
 (decide ((z09 r.st).kind=.function)&& !(z09 r.st).isCoroutine&& !(z09 r.st).isGenerator&&decide r.N.Nodup&&decide (r.N.take r.ps.length=r.ps))&&
 (r.ps.all (λx=>(z09 r.st).names.lookup x==Z9 .local||(z09 r.st).names.lookup x==Z9 .cell)&&(z09 r.st).names.all (λy=>!(y.2==.free))&&r.free.all (λx=>fr.contains x)&&r.fns.all (λj=>decide (j<i)&&nE Rs j)&&r.part Rs xt i)
def oks (Rs:List aQ)(xt:List XR)(fr:List Str):Nat->List aQ->Bool
 |_,[]=>Z7
 |i,r::l=>r.ok Rs xt fr i&&oks Rs xt fr (i+1) l
def aQ.A5 (Rs:List aQ)(r:aQ):Prop:=match r.kd with
 |.n=>r.F=aP (r.kc.map cD) (r.fns.map (fnAt Rs)) r.N.length r.s
 |.e _ _=>True
 |.g d _=>r.F=gZ (r.fns.map (fnAt Rs)) r.N.length r.s d
def fOks (Rs:List aQ):List aQ->Prop
 | []=>True
 |r::l=>r.A5 Rs/\fOks Rs l
theorem Fd:∀{l:List aQ} {k i:Nat} {r:aQ},oks Rs a fr k l=Z7->l[i]?=Z9 r->r.ok Rs a fr (k+i)=Z7
 | [],_,i,_,_,e=>by simp at e
 |r::l,k,0,_,h,e=>by cases e;exact(aE h).1
 |r::l,k,i+1,_,h,e=>by
  have:=Fd (aE h).2 e
  rwa [show k+(i+1)=k+1+i by omega]
theorem Fe:∀{l:List aQ} {i:Nat} {r:aQ},fOks a l->l[i]?=Z9 r->r.A5 a
 | [],i,_,_,e=>by simp at e
 |r::l,0,_,h,e=>by cases e;exact h.1
 |r::l,i+1,_,h,e=>Fe h.2 e
section
variable {P:b9}{w:World}{K:Z5}{mg:Str->Option Value}{base:Heap}{Rs:List aQ}{xt:List XR}{fr:List Str}
theorem vO {r:aQ}(h:r.ok Rs xt fr i=Z7):FnScope (r.G Rs xt).N r.ps (z09 r.st)/\(∀x,r.free.contains x=Z7->fr.contains x=Z7)/\(∀j∈r.fns,j<i/\nE Rs j=Z7)/\r.part Rs xt i=true:=by
 obtain⟨d,e⟩:=aE h;obtain⟨a1,a2,a3,a4,f⟩:=dD d;obtain⟨g,k,l,b,m⟩:=dD e;refine⟨⟨xv a1,eP a2,eP a3,xv a4,xv f,λx a=>?_,λy n z=>?_⟩,λx a=>?_,λj c=>⟨xv (aE (a9.mp b j c)).1,(aE (a9.mp b j c)).2⟩,m⟩
 .rcases gf.mp (a9.mp g x a)with q|q
  .exact .inl (x5 q)
  .exact .inr (x5 q)
 .have :=eP (a9.mp k y n);rw[z]at this;cases this
 .exact a9.mp l x (df.mp a)
def tK (P:b9)(w:World)(K:Z5)(mg:Str->Option Value)(base:Heap)(i:Nat)(r:aQ):Prop:=match r.kd with
 |.e c b=>Cal P w K mg base (i+1) r.nm r.ps (spE mg c b)
 |_=>Cal P w K mg base (i+1) r.nm r.ps (spD K r.ps.length r.F)/\CalX P w K mg base (i+1) r.nm r.ps r.ps.length r.F
theorem yZ (h:tK P w K mg base j c)(e:Rs[j]?=Z9 c)(n:nE Rs j=Z7):Cal P w K mg base (j+1) c.nm c.ps (spD K c.ps.length c.F)/\CalX P w K mg base (j+1) c.nm c.ps c.ps.length c.F:=by
 unfold nE at n;rw[e]at n;have n:(!c.kd.fG)=true:=n;unfold tK at h;cases a:c.kd with
 |n=>rw[a]at h;exact h
 |g d f=>rw[a]at h;exact h
 |e x b=>rw[a]at n;cases n
theorem Ff (h:∀c,Rs[j]?=Z9 c->tK P w K mg base j c)(n:gE Rs d j=Z7):∃p,Cal P w K mg base (j+1) d.g [p] (spE mg d.c d.r):=by
 unfold gE at n;cases e:Rs[j]? with
 |none=>rw[e]at n;cases n
 |some z=>
  rw[e]at n;obtain⟨n1,n2,n3⟩:=bE n;have h:=h z e;unfold tK at h;cases hk:z.kd with
  |n=>rw[hk]at n3;cases n3
  |g d je=>rw[hk]at n3;cases n3
  |e x b=>
   rw[hk]at n3 h;obtain⟨m1,m2⟩:=aE n3;rw[x5 n1,x5 m1,x5 m2]at h;cases hp:z.ps with
   |nil=>rw[hp]at n2;cases xv n2
   |cons p l=>rw[hp]at n2 h;have n2:=xv n2;cases og (Nat.succ.inj n2);exact⟨p,h⟩
theorem tells_of (h:Fc s n b=Z7):∃g,aI [] [] s (bp n Z8)=.ok (.rt g (.bool b)):=by
 unfold Fc at h;split at h
 .rename_i g b' e;cases x5 h;exact⟨g,e⟩
 .cases h
def A6 (K:Z5)(mg:Str->Option Value)(y:Str×Kc):Prop:=∃v u,mg y.1=Z9 u/\RelV v u/\∀H B,B Z8->Rep K H B v (cD y)
theorem K8 (hr:Rs[i]?=Z9 r)(h:r.ok Rs xt fr i=Z7)(T:∀x∈fr,mg x=Z8)(xk:∀Γ:Gm,Γ.sub=(xt.map XR.subs).flatten->Γ.rs=xt.map (·.c)->(Γ.lS=xt.map λr=>(r.c,r.B))->sX Γ K mg)(hC:∀y∈r.kc,A6 K mg y)(ih:∀j c,j<i->Rs[j]?=Z9 c->tK P w K mg base j c):Dok (r.G Rs xt) (r.kc.map cD) (r.fns.map (fnAt Rs)) P w K mg base i where
 free:=λx hx=>T x (df.mp ((vO h).2.1 x hx))
 fns:=λj f n e=>by
  have e:(r.fns.map (sig Rs))[j]?=Z9 (f,n):=e;rw[bt]at e;obtain⟨jj,ej,e⟩:=dj.mp e;obtain⟨eB,cU⟩:=(vO h).2.2.1 jj (bx ej);have hl:=(bc.mp hr).1;have hc:=ba (o6 eB hl);unfold sig at e;rw[hc]at e;cases e;refine⟨fnAt Rs jj,jj+1,Rs[jj].ps,by rw[bt,ej];rfl,eB,?_⟩;have:fnAt Rs jj=Rs[jj].F:=by unfold fnAt;rw[hc]
  rw[this];exact(yZ (ih jj _ eB hc) hc cU).1
 cst:=λj x e=>by have e:(r.kc.map (·.1))[j]?=Z9 x:=e;rw[bt]at e;obtain⟨y,ey,rfl⟩:=dj.mp e;obtain⟨v,u,h1,h2,h3⟩:=hC y (bx ey);exact⟨cD y,v,u,by rw[bt,ey];rfl,h1,h2,h3⟩
 mV:=λj f n e=>by
  have e:(r.fns.map (sig Rs))[j]?=Z9 (f,n):=e;rw[bt]at e;obtain⟨jj,ej,e⟩:=dj.mp e;obtain⟨eB,cU⟩:=(vO h).2.2.1 jj (bx ej);have hl:=(bc.mp hr).1;have hc:=ba (o6 eB hl);unfold sig at e;rw[hc]at e;cases e;refine⟨fnAt Rs jj,jj+1,Rs[jj].ps,by rw[bt,ej];rfl,eB,?_⟩;have:fnAt Rs jj=Rs[jj].F:=by unfold fnAt;rw[hc]
  rw[this];exact(yZ (ih jj _ eB hc) hc cU).2
 xk:=xk _ rfl rfl rfl
theorem Vc (hok:oks Rs xt fr 0 Rs=Z7)(hF:fOks Rs Rs)(T:∀x∈fr,mg x=Z8)(xk:∀Γ:Gm,Γ.sub=(xt.map XR.subs).flatten->Γ.rs=xt.map (·.c)->(Γ.lS=xt.map λr=>(r.c,r.B))->sX Γ K mg)(n:Nat)(hC:∀r∈Rs,∀y∈r.kc,A6 K mg y)(O:∀i r,i<n->Rs[i]?=Z9 r->Own K mg r.nm r.st r.ps):∀i r,i<n->Rs[i]?=Z9 r->tK P w K mg base i r:=by
 intro i
 induction i using Nat.strongRecOn with
 |ind i ih=>
  intro r hi hr
  have ho:r.ok Rs xt fr i=true:=by
   have:=Fd hok hr
   rwa [ll]at this
  have ih:=λj c hj hc=>ih j hj c (o6 hj hi) hc;have D:=K8 (P:=P) (w:=w) hr ho T xk (hC r (bx hr)) ih;obtain⟨Sc,yI,_,hp⟩:=vO ho;have hf:=Fe hF hr;obtain⟨f,fd,Fu,m,kp,b⟩:=O i r hi hr;unfold aQ.A5 at hf;unfold aQ.part at hp;unfold tK;cases hk:r.kd with
  |n=>rw[hk]at hf hp;rw[hf];exact⟨⟨f,fd,d_fn (Γ:=r.G Rs xt) Fu Sc rfl rfl rfl D hp,m,kp,b⟩,⟨f,fd,zwb (Γ:=r.G Rs xt) Fu Sc rfl rfl rfl D hp,m,kp,b⟩⟩
  |e c bb=>rw[hk]at hp;obtain⟨p1,p2,p3⟩:=bE hp;obtain⟨q1,q2,q3,q4,q5⟩:=dD p1;obtain⟨g,eg⟩:=tells_of p3;have K9:=xv q1;have Fo:FnOk P w K mg base iU (i+1) f fd [r.ps.headD ""] (spE mg c bb):=zxn Fu (by rw[<-K9];exact Sc) (x5 q2) rfl (xv q3) rfl rfl rfl rfl rfl (jq.mp q4) (x5 q5) (λx hx=>T x (df.mp (yI x hx))) (xk _ rfl rfl rfl) p2 eg;rw[<-K9]at Fo;exact⟨f,fd,Fo,m,kp,b⟩
  |g d je=>rw[hk]at hf hp;obtain⟨p1,p2,p3⟩:=bE hp;have La:=xv p2;obtain⟨p3,p4⟩:=aE p3;rw[iC p4]at D;obtain⟨pr,Cg⟩:=Ff (λc hc=>ih je c La hc) p3;rw[hf];exact⟨⟨f,fd,zva (Γ:=r.G Rs xt) Fu Sc rfl rfl rfl D p1 Cg La,m,kp,b⟩,⟨f,fd,zu6 Fu Sc,m,kp,b⟩⟩
end
def Kf (K:Z5)(r:aQ)(f:Addr)(fd:ms):Prop:=W.nsIn K ci r.nm=Z9 (Z9 (.ref f))/\∃(oc:Value) (od an:Option Addr) (sl:Array (Option Value)) (kV dc pm cd ct:Value),fd=W.fnOf r.nm r.nm (lH r.st) (z0o r.st) (z09 r.st) .none kV dc pm an cd ct/\K.lookup f=Z9 ⟨oc,od,.func fd,sl⟩/\W.codeIn K cd r.nm=Z7/\W.keepIn K (.ref f)=Z7
def Fg (r:aQ):Prop:=∀(kV doc pm:Value) (an:Option Addr) (iV ct:Value) (us:List Value),us.length=r.ps.length->xb (W.fnOf r.nm r.nm (lH r.st) (z0o r.st) (z09 r.st) .none kV doc pm an iV ct) ⟨us,[]⟩=pure (r.ps.zip us)
theorem pC (h:b.length=n+1):∃a l,b=a::l/\l.length=n:=by
 cases b with
 |nil=>cases h
 |cons a l=>exact⟨a,l,rfl,Nat.succ.inj h⟩
theorem mW {P:List Value->Prop}(h:∀a,P [a])(b:List Value)(z:b.length=1):P b:=by obtain⟨a,l,rfl,y⟩:=pC z;cases og y;exact h a
theorem hJ {P:List Value->Prop}(h:∀a b,P [a,b])(c:List Value)(z:c.length=2):P c:=by obtain⟨a,l,rfl,y⟩:=pC z;exact mW (P:=λl=>P (a::l)) (h a) l y
theorem jD {P:List Value->Prop}(h:∀a b c,P [a,b,c])(d:List Value)(z:d.length=3):P d:=by obtain⟨a,l,rfl,y⟩:=pC z;exact hJ (P:=λl=>P (a::l)) (h a) l y
theorem by4 {P:List Value->Prop}(h:∀a b c d,P [a,b,c,d])(e:List Value)(z:e.length=4):P e:=by obtain⟨a,l,rfl,y⟩:=pC z;exact jD (P:=λl=>P (a::l)) (h a) l y
def kOks (K:Z5):List aQ->Prop
 | []=>True
 |r::l=>((∃f fd,Kf K r f fd)/\Fg r)/\kOks K l
theorem Lb {K:Z5}:∀{l:List aQ} {i:Nat} {r:aQ},kOks K l->l[i]?=Z9 r->(∃f fd,Kf K r f fd)/\Fg r
 | [],i,_,_,e=>by simp at e
 |r::l,0,_,h,e=>by cases e;exact h.1
 |r::l,i+1,_,h,e=>Lb h.2 e
def strOf:Value->Option Str
 |.str x _=>if Z3 x then Z9 x else Z8
 |_=>Z8
def Fh (K:Z5)(y:Str×List Str):Bool:=match W.nsIn K ci y.1 with
 |some (Z9 (.ref a))=>(match K.lookup a with
  |some ⟨.type "tuple",Z8,.seq its _,_⟩=>decide (its.toList.map strOf=y.2.map Z9)&&decide (y.2.length<=1000)
  |_=>Z6)
 |_=>Z6
def y3 (K:Z5)(y:Str×Kc):Bool:=match y.2 with
 |.t ws=>Fh K (y.1,ws)
 |.i n=>(match W.nsIn K ci y.1 with
  |some (Z9 (.int m _))=>decide (m=n)
  |_=>Z6)
theorem Lc:∀{us:List Value} {ws:List Str},us.map strOf=ws.map Z9->Vals (ws.map V.str) us/\∀w∈ws,Z3 w=Z7
 | [],[],_=>⟨.nil,λ_ h=>by cases h⟩
 | [],_::_,h=>by cases h
 |_::_,[],h=>by cases h
 |u::us,w::ws,h=>by
  obtain⟨c,d⟩:=List.cons.inj h;obtain⟨a,b⟩:=Lc d;cases u with
  |str x t=>
   have c:(if Z3 x then Z9 x else Z8)=Z9 w:=c;split at c
   .rename_i f;cases c;exact⟨.cons ⟨t,rfl⟩ a,λz g=>(aw.mp g).elim (λe=>by rw[e];exact f) (b z)⟩
   .cases c
  |_=>cases c
theorem Ld {K:Z5}:∀{ws:List Str},(∀w∈ws,Z3 w=Z7)->Reps K H B (ws.map V.str) (ws.map Z2)
 | [],_=>rfl
 |w::ws,h=>Reps.cons ⟨rfl,h w (.head _)⟩ (Ld λz a=>h z (.tail _ a))
theorem Vd {K:Z5}(X:K.In h)(G:h.Ns ci mg)(c:Fh K y=Z7):A6 K mg (y.1,.t y.2):=by
 unfold Fh at c;split at c
 .rename_i a ha;split at c
  .rename_i its n sl hl;obtain⟨c1,c2⟩:=aE c;obtain⟨v,ok⟩:=Lc (xv c1);have hz:its.size<=bj:=by have e:=v.length;rw[af,bq]at e;have:=xv c2;rw[io];omega
   exact⟨.ref a,.ref a,W.mg_of X G ha,rfl,λH B _=>⟨a,y.2.map V.str,rfl,.inr ⟨_,its,n,hl,rfl,rfl,rfl,hz,v⟩,Ld ok⟩⟩
  .cases c
 .cases c
theorem Ve {K:Z5}(X:K.In h)(G:h.Ns ci mg)(c:y3 K y=Z7):A6 K mg y:=by
 obtain⟨x,k⟩:=y;cases k with
 |t ws=>exact Vd X G c
 |i n=>
  unfold y3 at c
  dsimp only at c
  split at c
  .rename_i m t ha;have e:=xv c;subst e;exact⟨.int m,.int m t,W.mg_of X G ha,⟨t,rfl⟩,λH B _=>rfl⟩
  .cases c
theorem all_rows {l:W.OpenLaw}{K:Z5}(X:K.In h)(G:h.Ns ci mg)(hfa:mg lr.nm=Z9 (.ref fa))(hx:lr.ps=[x])(hkd:lr.kd=.n)(hok:oks (Rs++[lr]) xt fr 0 (Rs++[lr])=Z7)(hF:fOks (Rs++[lr]) (Rs++[lr]))(hK:kOks K Rs)(kl:∃f fd,Kf K lr f fd)
  (hb:∀(kV dc pm:Value) (an:Option Addr) (cd ct:Value) (s:ao) (v:Value),tz s (W.fnOf lr.nm lr.nm (lH lr.st) (z0o lr.st) (z09 lr.st) .none kV dc pm an cd ct) ⟨[v],[]⟩ [(x,v)]) (hz:∀n∈fr,W.nsIn K ci n=Z9 Z8) (Vf:vN K xt) (hv:xt≠[]->("ValueError":Str)∈fr) (hC:∀r∈Rs++[lr],∀y∈r.kc,y3 K y=Z7):
  ∃fd:ms,(∀(s:ao) (v:Value),tz s fd ⟨[v],[]⟩ [(x,v)])/\∀base:Heap,K.In base->base.Ns ci mg->FnOk l.prog w K mg base iU (Rs.length+1) fa fd [x] (spD K 1 lr.F):=by
 obtain⟨f,fd,a,oc,od,an,sl,kV,dc,pm,cd,ct,rfl,lk,hc,hk⟩:=kl;have e:=hfa.symm.trans (W.mg_of X G a);cases e;have T:=λn hn=>W.mg_none_of X G (hz n hn);have hr:(Rs++[lr])[Rs.length]?=Z9 lr:=by rw[fy (ar _),wc];rfl
 have ho:lr.ok (Rs++[lr]) xt fr Rs.length=true:=by
  have:=Fd hok hr
  rwa [ll]at this
 refine⟨_,λs v=>hb kV dc pm an cd ct s v,λbase _ _=>?_⟩;have O:∀i r,i<Rs.length->(Rs++[lr])[i]?=Z9 r->Own K mg r.nm r.st r.ps:=λi r hi e=>by rw[jl hi]at e;obtain⟨⟨f,fd,a,oc,od,an,sl,kV,dc,pm,cd,ct,rfl,lk,hc,hk⟩,hb⟩:=Lb hK e;exact zuh X G a lk hc hk hb
 have xk:∀Γ:Gm,Γ.sub=(xt.map XR.subs).flatten->Γ.rs=xt.map (·.c)->(Γ.lS=xt.map λr=>(r.c,r.B))->sX Γ K mg:=λΓ h1 h2 h3=>Vb X G Vf (λz=>T _ (hv z)) h1 h2 h3;have hC:=λr hr y hy=>Ve X G (hC r hr y hy);have D:=K8 (P:=l.prog) (w:=w) (base:=base) hr ho T xk (hC lr (aq _ (.head _))) λj c hj hc=>Vc hok hF T xk Rs.length hC O j c hj hc;have hp:=(vO ho).2.2.2;have hf:=Fe hF hr;unfold aQ.part at hp;unfold aQ.A5 at hf;rw[hkd]at hp hf;have:=d_fn (Cr lk hc hk) (vO ho).1 rfl rfl rfl D hp;have e2:aP (lr.kc.map cD) (lx (fnAt (Rs++[lr])) lr.fns) (lr.G (Rs++[lr]) xt).N.length lr.s=lr.F:=hf.symm;rw[e2,hx]at this;exact this
def qS (K:Z5)(r:aQ):Option (ms×Bool):=match W.nsIn K ci r.nm with
 |some (Z9 (.ref f))=>(match K.lookup f with
  |some ⟨_,_,.func fd,_⟩=>Z9 (fd,W.codeIn K fd.code r.nm&&W.keepIn K (.ref f))
  |_=>Z8)
 |_=>Z8
def Le (r:aQ)(x:ms×Bool):ms×Bool:=(W.fnOf r.nm r.nm (lH r.st) (z0o r.st) (z09 r.st) .none x.1.kwdefaults x.1.doc x.1.pyModule x.1.annotations x.1.code x.1.closureTuple,Z7)
def y4 (K:Z5)(A:Addr):Bool:=match K.lookup A with
 |some ⟨.type "type",_,.cls _,_⟩=>Z7
 |_=>Z6
def y6:List Value:=[.type "ValueError",.type "Exception",.type "BaseException",.type "object"]
def Fi (K:Z5)(r:XR):Option (Bool×Bool×Option (Option Value)×Option (Option Value)×Option (Option Value)×Option Bool×Option Bool×Option Bool×Bool×Option Bool×List (Bool×Option Bool)):=match W.nsIn K ci r.c,W.nsIn K ci r.B with
 |some (Z9 (.ref A)),Z9 (Z9 (.ref D))=>Z9 (y4 K A,W.excIn K A y6 "ValueError.__new__",W.findIn K (.ref A) "__class__",W.findIn K (.ref A) "__getattribute__",W.findIn K (.ref A) "__getattr__",Z4 K (.ref A) (.type "object"),Z4 K (.ref A) (.type "BaseException"),Z4 K (.ref A) (.type "ValueError"),W.excIn K D y6 "ValueError.__new__",Z4 K (.ref A) (.ref D),r.cs.map λy=>match W.nsIn K ci y.1 with
  |some (Z9 (.ref E))=>(y4 K E,Z4 K (.ref A) (.ref E))
  |_=>(Z6,Z8))
 |_,_=>Z8
def Fj (r:XR):Option (Bool×Bool×Option (Option Value)×Option (Option Value)×Option (Option Value)×Option Bool×Option Bool×Option Bool×Bool×Option Bool×List (Bool×Option Bool)):=Z9 (Z7,Z7,Z9 (Z9 (.builtin "object.__class__")),Z9 (Z9 (.builtin "BaseException.__getattribute__")),Z9 Z8,Z9 Z7,Z9 Z7,Z9 Z7,Z7,Z9 Z7,r.cs.map λy=>(Z7,Z9 y.2))
theorem Lf {K:Z5}(h:y4 K A=Z7):∃a cd sl,K.lookup A=Z9 ⟨.type "type",a,.cls cd,sl⟩:=by
 unfold y4 at h;split at h
 .rename_i a cd sl e;simp_all
 .cases h
theorem zfq {K:Z5}:∀{l:List (Str×Bool)},(l.map fun y=>match W.nsIn K ci y.1 with
  |some (Z9 (.ref E))=>(y4 K E,Z4 K (.ref A) (.ref E))
  |_=>(Z6,Z8))=(l.map λy=>(Z7,Z9 y.2))->A2 K A l
 | [],_=>trivial
 |y::l,h=>by
  have h:=List.cons.inj h;refine⟨?_,zfq h.2⟩;have e:=h.1
  dsimp only at e
  split at e
  .rename_i E a;have e:=xu e;obtain⟨b,cd,sl,q⟩:=Lf e.1;exact⟨E,b,cd,sl,a,q,e.2⟩
  .cases(xu e).1
theorem Vg {K:Z5}(h:Fi K r=Fj r):∃A D,Kx K r A D:=by
 unfold Fi Fj at h;split at h
 .rename_i A D k l;have h:=xu (xr h);have b:=xu h.2;have c:=xu b.2;have d:=xu c.2;have e:=xu d.2;have f:=xu e.2;have g:=xu f.2;have i:=xu g.2;have j:=xu i.2;have a:=xu j.2;exact⟨A,D,k,Lf h.1,b.1,c.1,d.1,e.1,f.1,g.1,i.1,l,j.1,a.1,zfq a.2⟩
 .cases h
theorem Lg {K:Z5}:∀{l:List XR},(∀r∈l,∃A D,Kx K r A D)->vN K l
 | [],_=>trivial
 |r::_,h=>⟨h r (.head _),Lg λr a=>h r (.tail _ a)⟩
def KEq (K:jo->Z5)(Rs:List aQ)(fr:List Str)(xt:List XR):Prop:=∀P,(Rs.map λr=>(qS (K P) r).isSome,Rs.map λr=>qS (K P) r,fr.map λn=>W.nsIn (K P) ci n,xt.map λr=>Fi (K P) r,Rs.map λr=>r.kc.map λy=>y3 (K P) y)=(Rs.map λ_=>Z7,Rs.map λr=>(qS (K P) r).map (Le r),fr.map λ_=>Z9 Z8,xt.map Fj,Rs.map λr=>r.kc.map λ_=>Z7)
theorem KEq_r:KEq=KEq:=rfl
theorem Vh {K:Z5}(h:(qS K r).isSome=Z7)(e:qS K r=(qS K r).map (Le r)):∃f fd,Kf K r f fd:=by
 cases z:qS K r with
 |none=>rw[z]at h;cases h
 |some x=>
  rw[z]at e;have e:=xr e;unfold qS at z;split at z
  .rename_i f hf;split at z
   .rename_i oc od fd sl c;have z:=xr z;have d:=congrArg xn z;have a:=congrArg wb z;rw[congrArg wb e]at a;have b:=b6.mp a;subst d;exact⟨f,x.1,hf,oc,od,x.1.annotations,sl,x.1.kwdefaults,x.1.doc,x.1.pyModule,x.1.code,x.1.closureTuple,congrArg xn e,c,b.1,b.2⟩
   .cases z
  .cases z
theorem y7 {K:jo->Z5}(h:KEq K e fr g)(P:jo):(∀r∈e,∃f fd,Kf (K P) r f fd)/\(∀n∈fr,W.nsIn (K P) ci n=Z9 Z8)/\vN (K P) g/\∀r∈e,∀y∈r.kc,y3 (K P) y=true:=by have a:=xu (h P);have b:=xu a.2;have c:=xu b.2;have d:=xu c.2;exact⟨λr hr=>Vh (jz.mp a.1 r hr) (jz.mp b.1 r hr),λn hn=>jz.mp c.1 n hn,Lg λr hr=>Vg (jz.mp d.1 r hr),λr hr=>jz.mp (jz.mp d.2 r hr)⟩
def tL:List aQ->Prop
 | []=>True
 |r::l=>Fg r/\tL l
theorem Lh {K:Z5}:∀{l:List aQ},(∀r∈l,∃f fd,Kf K r f fd)->tL l->kOks K l
 | [],_,_=>trivial
 |r::_,h,b=>⟨⟨h r (.head _),b.1⟩,Lh (λr a=>h r (.tail _ a)) b.2⟩
end Mi
name_quick tkeq for Mi.KEq by Mi.KEq_r
namespace Mk
open Mi
section
open PySem
abbrev P:=List (Str×Int)
def pr (p:Str×Int):D:=.tuple [.str p.1,.int p.2]
def pk (l:P):D:=.tuple (l.map pr)
def ep (p:Str×Int):D×D:=(.str p.1,.int p.2)
def en (l:P):cR:=l.map ep
def cF:P->Str->Option Int
 | [],_=>Z8
 |p::l,n=>if p.1=n then Z9 p.2 else cF l n
def look (l:P)(n:Str):Int:=(cF l n).getD 0
def ks (l:P):List Str:=l.map (·.1)
def put:P->Str->Int->P
 | [],n,v=>[(n,v)]
 |p::l,n,v=>if p.1=n then(p.1,v)::l else p::put l n v
def sl (a b:Str):Prop:=a.cps.toList<b.cps.toList
theorem A7 (a:Str):¬sl a a:=List.lt_irrefl _
theorem A8 (h:sl a b)(k:sl b c):sl a c:=List.lt_trans h k
theorem Fl {b:Str}(h:a.cps.toList=b.cps.toList):a=b:=by cases a;cases b;simp at h;subst h;rfl
theorem Fp (h:a≠b):sl a b\/sl b a:=by
 by_cases c:sl a b
 .exact .inl c
 .by_cases d:sl b a
  .exact .inr d
  .exact(h (Fl (List.le_antisymm (List.not_lt.mp d) (List.not_lt.mp c)))).elim
theorem Vi (h:sl a b):a≠b:=λe=>A7 b (e▸h)
theorem tM:∀{l:P},n∉ks l->cF l n=Z8
 | [],_=>rfl
 |p::l,h=>by simp only[ks,bg,aw,not_or]at h;rw[cF,xq (λe=>h.1 e.symm)];exact tM h.2
theorem tN:∀{l:P},cF l n=Z9 v->(n,v)∈l
 | [],h=>by cases h
 |p::l,h=>by
  rw[cF]at h;split at h
  .rename_i e;cases h;subst e;simp_all
  .exact av _ (tN h)
theorem Vj (h:cF l n=Z9 v):n∈ks l:=a6.mpr ⟨_,tN h,rfl⟩
theorem A9:∀{l:P} {p:Str×Int},(ks l).Nodup->p∈l->cF l p.1=Z9 p.2
 |q::l,p,nd,h=>by
  rw[ks,bg,bw]at nd;rw[cF];rcases(aw.mp h)with rfl|h
  .rw[xp rfl]
  .rw[xq λe:q.1=p.1=>nd.1 (a6.mpr ⟨p,h,e.symm⟩)];exact A9 nd.2 h
theorem Li (h:n∈ks l):∃v,cF l n=Z9 v:=by
 cases e:cF l n with
 |some v=>exact⟨v,rfl⟩
 |none=>
  exfalso
  induction l with
  |nil=>cases h
  |cons p l a=>
   rw[cF]at e;split at e
   .cases e
   .rename_i hn;rcases aw.mp h with h|h
    .exact hn h.symm
    .exact a h e
theorem Lj (n:Str)(v:Int)(m:Str):∀l,cF (put l n v) m=if n=m then Z9 v else cF l m
 | []=>by simp[put,cF]
 |p::l=>by
  rw[put];split
  .rename_i e;subst e;rw[cF,cF];split<;>rfl
  .rename_i e;rw[cF,cF,Lj n v m l];split
   .rename_i a;rw[xq λz=>e (a.trans z.symm)]
   .rfl
theorem Vk (n:Str)(v:Int)(m:Str)(l:P):look (put l n v) m=if n=m then v else look l m:=by rw[look,Lj];split<;>rfl
theorem Fq (n:Str)(v:Int):∀l,∀m,m∈ks (put l n v)↔m=n\/m∈ks l
 | [],m=>by simp[put,ks]
 |p::l,m=>by
  rw[put];split
  .rename_i e;subst e;simp[ks]
  .have :=Fq n v l m;simp only[ks,bg,aw]at this ⊢;rw[this];constructor
   .rintro(h|h|h)<;>simp[h]
   .rintro(h|h|h)<;>simp[h]
theorem Fs (n:Str)(v:Int):∀l,(ks l).Nodup->(ks (put l n v)).Nodup
 | [],_=>by simp[put,ks]
 |p::l,h=>by
  rw[put];split
  .exact h
  .rename_i e;rw[ks,bg,bw]at h ⊢;refine⟨λz=>?_,Fs n v l h.2⟩;rcases(Fq n v l p.1).mp z with z|z
   .exact e z
   .exact h.1 z
theorem y8:∀{a b:List Str},a.Nodup->(∀x∈a,x∈b)->a.length<=b.length
 | [],b,_,_=>dr _
 |x::a,b,nd,h=>by rw[bw]at nd;have hx:=h x ah;have:=y8 nd.2 λy c=>(tt λe:y=x=>nd.1 (e▸c)).mpr (h y (av _ c));rw[qc hx]at this;have:0<b.length:=rc hx;simp;omega
theorem A' (a b:Str):eqK (.str a) (.str b)=decide (a=b):=by simp only[eqK]
theorem Vl (a:Str):jK (.str a)=true:=by simp only[jK]
theorem Lk (n:Str):∀l,fV (en l) (.str n)=(cF l n).map .int
 | []=>rfl
 |p::l=>by
  have a:=Lk n l;unfold fV at a ⊢;rw[cF];show Option.map _ (match eqK (.str p.1) (.str n)with|true=>_|false=>_)=_;rw[A'];by_cases h:p.1=n
  .rw[xp h];simp[h,ep]
  .rw[xq h];simp only[h,decide_false];exact a
theorem Ft (n:Str):∀l,((en l).any λe=>eqK e.1 (.str n))=Z7↔n∈ks l
 | []=>by simp[en,ks]
 |p::l=>by show(eqK (.str p.1) (.str n)||_)=Z7↔_;rw[A',eh,ks];have:=Ft n l;rw[en,ks]at this;rw[this];simp[eq_comm]
theorem Ll:∀{l:P},(ks l).Nodup->n∈ks l->(en l).map (λe=>if eqK e.1 (.str n)then(e.1,.int v)else e)=en (put l n v)
 |p::l,nd,h=>by
  rw[ks,bg,bw]at nd;rw[put];show(if eqK (.str p.1) (.str n)=Z7 then _ else _)::_=_;rw[A'];by_cases e:p.1=n
  .have hn:∀q∈l,¬q.1=n:=λq a z=>nd.1 (a6.mpr ⟨q,a,z.trans e.symm⟩);rw[xp e,xp (by simpa using e)]
   congr 1
   rw[gb];apply t8;intro q a;show(if eqK (.str q.1) (.str n)=Z7 then _ else _)=ep q;rw[A',xq (by simpa using hn q a)]
  .rw[xq e,xq (by simpa using e)]
   congr 1
   refine Ll nd.2 ?_;rcases aw.mp h with h|h
   .exact(e h.symm).elim
   .exact h
theorem Fv:∀{l:P},n∉ks l->put l n v=l++[(n,v)]
 | [],_=>rfl
 |p::l,h=>by simp only[ks,bg,aw,not_or]at h;rw[put,xq λe=>h.1 e.symm,Fv h.2];rfl
theorem Lm (nd:(ks l).Nodup):dput (en l) (.str n) (.int v)=en (put l n v):=by
 unfold dput;by_cases h:n∈ks l
 .rw[xp ((Ft n l).mpr h)];exact Ll nd h
 .rw[xq λz=>h ((Ft n l).mp z),Fv h];simp[en,ep]
theorem Ln:∀l a,(ks (a++l)).Nodup->jL (en a) (l.map pr)=Z9 (en (a++l))
 | [],a,_=>by simp[jL]
 |p::l,a,nd=>by
  have b:=nd;rw[ks,b7]at nd;have c:=λz=>by rw[il]at nd;exact nd.2.2 _ z _ ah rfl
  show(if jK (.str p.1)then jL (dput (en a) (.str p.1) (.int p.2)) (l.map pr)else Z8)=_;rw[xp (Vl _),Lm (by rw[il]at nd;exact nd.1),Fv c,Ln l (a++[(p.1,p.2)]) (by rw[du];exact b),du];rfl
theorem Vm (nd:(ks l).Nodup):jL [] (l.map pr)=Z9 (en l):=by have:=Ln l [] (by simpa using nd);simpa[en]using this
theorem Vn (l:P):(en l).map ent=l.map pr:=by rw[en,gb];rfl
theorem Lo (l:P):(en l).length=l.length:=by rw[en,af]
theorem Lp (l:P):bV (en l)=true:=by unfold bV;rw[a9];intro e a;obtain⟨p,_,rfl⟩:=a6.mp a;rfl
theorem qT (p:Str×Int):imm (pr p)=true:=rfl
theorem Ba (l:P):imms (l.map pr)=true:=xT.mpr λx a=>by obtain⟨p,_,rfl⟩:=a6.mp a;rfl
theorem bI (l:P):imm (pk l)=true:=Ba l
theorem Vo (n:Nat)(p:Str×Int):shal (n+1) (pr p)=true:=by cases n<;>rfl
theorem pD (n:Nat)(l:P):shal (n+2) (pk l)=true:=by exact jJ.mpr λx a=>by obtain⟨p,_,rfl⟩:=a6.mp a;exact Vo n p
theorem Vp (p:Str×Int):aY (pr p) (pr p)=true:=by simp[aY,pr,PyData.eqv,ZW]
theorem Lq:∀l:P,ZW (l.map pr) (l.map pr)=Z7
 | []=>by simp[ZW]
 |p::l=>by rw[bg,ZW,Lq l];simpa using Vp p
theorem Bb (l:P):aY (pk l) (pk l)=true:=by show PyData.eqv (.tuple _) (.tuple _)=Z7;rw[PyData.eqv];exact Lq l
theorem Ls (l:P):lM (l.map pr)=true:=by
 cases l with
 |nil=>rfl
 |cons p l=>
  unfold lM;have:((p::l).map pr).all (z2n ([Z2 p.1,Z0 p.2].map uR))=true:=by rw[a9];intro x hx;obtain⟨q,_,rfl⟩:=a6.mp hx;rfl
  rw[eh];right;exact b6.mpr ⟨rfl,this⟩
theorem Vq (l:P):kQ (l.map pr)=true:=by unfold kQ;rw[Ls];rfl
def lp (p q:Str×Int):Bool:=bL (pr p) (pr q)
def hM (x:Str×Int):P->P
 | []=>[x]
 |y::ys=>if lp y x then y::hM x ys else x::y::ys
def srt:P->P
 | []=>[]
 |x::xs=>hM x (srt xs)
theorem Lu (x:Str×Int):∀l,dQ (pr x) (l.map pr)=(hM x l).map pr
 | []=>rfl
 |y::l=>by
  rw[bg,dQ,hM,lp];split
  .rw[Lu x l];rfl
  .rfl
theorem Fw:∀l,z1b (l.map pr)=(srt l).map pr
 | []=>rfl
 |x::l=>by rw[bg,z1b,Fw l,Lu,srt]
theorem Fx (x:Str×Int):∀l,(hM x l).Perm (x::l)
 | []=>.refl _
 |y::l=>by
  rw[hM];split
  .exact((Fx x l).cons y).trans (.swap x y l)
  .exact .refl _
theorem Bc:∀l,(srt l).Perm l
 | []=>.refl _
 |x::l=>(Fx x (srt l)).trans ((Bc l).cons x)
theorem Lw (h:p.1≠q.1):lp p q=Z7↔sl p.1 q.1:=by
 show bL (.tuple [.str p.1,.int p.2]) (.tuple [.str q.1,.int q.2])=Z7↔_;simp only[bL,aF];have:aY (.str p.1) (.str q.1)=false:=by simp[aY,PyData.eqv,h]
 rw[this];simp[sl]
def Sd (l:P):Prop:=l.Pairwise λp q=>sl p.1 q.1
theorem Lx:∀{l:P},Sd l->x.1∉ks l->Sd (hM x l)
 | [],_,_=>gy _ _
 |y::l,h,hx=>by
  have c:=cn.1 h;simp only[ks,bg,aw,not_or]at hx;rw[hM];split
  .rename_i hl;have b:=(Lw (λe=>hx.1 e.symm)).mp hl;refine cn.mpr ⟨λz a=>?_,Lx c.2 hx.2⟩;rcases aw.mp ((Fx x l).mem_iff.mp a)with rfl|a
   .exact b
   .exact c.1 z a
  .rename_i hl
   have b:sl x.1 y.1:=by
    rcases Fp hx.1 with z|z
    .exact z
    .exact(hl ((Lw (λe=>hx.1 e.symm)).mpr z)).elim
   refine cn.mpr ⟨λz a=>?_,h⟩;rcases(aw.mp a)with rfl|a
   .exact b
   .exact A8 b (c.1 z a)
theorem Bd:∀{l:P},(ks l).Nodup->Sd (srt l)
 | [],_=>List.Pairwise.nil
 |x::l,nd=>by rw[ks,bg,bw]at nd;exact Lx (Bd nd.2) λz=>nd.1 (((Bc l).map (·.1)).mem_iff.mp z)
theorem Fy (h:Sd l):(ks l).Nodup:=by unfold ks List.Nodup;rw[ij];exact List.Pairwise.imp (λz=>Vi z) h
theorem Vr (h:a.Perm b)(nd:(ks b).Nodup)(n:Str):cF a n=cF b n:=by
 cases e:cF b n with
 |some v=>exact A9 ((List.Perm.nodup_iff (h.map (λp:Str×Int=>p.1))).mpr nd) (h.mem_iff.mpr (tN e))
 |none=>
  cases c:cF a n with
  |none=>rfl
  |some v=>rw[A9 nd (h.mem_iff.mp (tN c))]at e;cases e
structure PK (l:P):Prop where
 sd:Sd l
 pos:∀p∈l,0<p.2
theorem PK.nd (h:PK l):(ks l).Nodup:=Fy h.sd
theorem PK.nil:PK []:=⟨List.Pairwise.nil,λ_ h=>by cases h⟩
theorem PK.bN (h:PK l)(n:Str):0<=look l n:=by
 unfold look;cases e:cF l n with
 |none=>exact ki _
 |some v=>exact Int.le_of_lt (h.pos _ (tN e))
theorem PK.key (h:PK l):n∈ks l↔0<look l n:=by
 constructor
 .intro z;obtain⟨v,e⟩:=Li z;unfold look;rw[e];exact h.pos _ (tN e)
 .intro z;unfold look at z;cases e:cF l n with
  |none=>rw[e]at z;simp_all
  |some v=>exact Vj e
theorem PK.aK (h:PK l)(a:p∈l):look l p.1=p.2:=by unfold look;rw[A9 h.nd a];rfl
theorem PK.ext:∀{a b:P},PK a->PK b->(∀n,look a n=look b n)->a=b
 | [],[],_,_,_=>rfl
 | [],q::b,_,hb,h=>by have:=h q.1;rw[hb.aK ah]at this;have z:=hb.pos _ ah;rw[<-this]at z;exact absurd z (ul 0)
 |p::a,[],ha,_,h=>by have:=h p.1;rw[ha.aK ah]at this;have z:=ha.pos _ ah;rw[this]at z;exact absurd z (ul 0)
 |p::a,q::b,ha,hb,h=>by
  have no:∀{x y:Str×Int} {l m:P},PK (x::l)->PK (y::m)->(∀n,look (x::l) n=look (y::m) n)->¬sl x.1 y.1:=λ{x y l m} hx f h z=>by
   have e:=h x.1;rw[hx.aK ah]at e;have k:=f.key.mpr (e▸hx.pos _ ah);rcases aw.mp k with k|k
   .exact A7 _ (k▸z)
   .obtain⟨w,i,c⟩:=a6.mp k;have:=(cn.mp f.sd).1 w i;rw[c]at this;exact A7 _ (A8 z this)
  have g:p.1=q.1:=by
   by_cases e:p.1=q.1
   .exact e
   .rcases Fp e with z|z
    .exact(no ha hb h z).elim
    .exact(no hb ha (λn=>(h n).symm) z).elim
  have c:p.2=q.2:=by have:=h p.1;rw[ha.aK ah,g,hb.aK ah]at this;exact this
  have d:=Prod.ext g c;subst d
  congr 1
  refine PK.ext ⟨(cn.mp ha.sd).2,λx hx=>ha.pos x (av _ hx)⟩ ⟨(cn.mp hb.sd).2,λx hx=>hb.pos x (av _ hx)⟩ λn=>?_;have hn:=h n;unfold look at hn ⊢;rw[cF,cF]at hn;by_cases e:p.1=n
  .have na:n∉ks a:=by have :=ha.nd;rw[ks,bg,bw]at this;exact e▸this.1
   rw[tM na,tM (by have:=hb.nd;rw[ks,bg,bw]at this;exact e▸this.1)]
  .rw[xq e,xq e]at hn;exact hn
end
section
open PySem
section
variable {Κ:List D}{Φ:List Fn}{ρ:Rho}{a b c t:C}{p q:S}{i:Nat}{f:D->Rho->Res Out}{x:D}{xs:List D}
theorem Ly:aI Κ Φ (.seq p q) ρ=oE (aI Κ Φ p ρ) (aI Κ Φ q):=rfl
theorem Fz:aI Κ Φ (.asg (.nm i) t) ρ=(aG Κ Φ t ρ>>=λx=>.ok (.nx (ρ.set i (Z9 (z1l x))))):=rfl
theorem FA:aI Κ Φ (.bP c p q) ρ=(dX Κ Φ c ρ>>=λk=>if k then aI Κ Φ p ρ else aI Κ Φ q ρ):=rfl
theorem Lz:aI Κ Φ (.ret (.var i)) ρ=(match ρ[i]? with|some (Z9 (g,d))=>.ok (.rt (if imm d then .fr else fO g) d)|_=>.no):=rfl
theorem Vs:aI Κ Φ (.eD i a b) ρ=(aG Κ Φ b ρ>>=λy=>aG Κ Φ a ρ>>=λx=>match ρ[i]? with
 |some (Z9 (.fr,.dict es))=>if jK x.2&&okIn y&&decide (es.length<aU)then .ok (.nx ((ρ.set i (Z9 (.fr,.dict (dput es x.2 y.2)))).map dW))else .no
 |some (Z9 (.fr,.list xs))=>(match x.2 with
  |.int j=>if okIn y then(match iT xs.length j with|some n=>.ok (.nx ((ρ.set i (Z9 (.fr,.list (xs.set n y.2)))).map dW))|none=>.no)else .no
  |_=>.no)
 |_=>.no):=rfl
theorem LA:aI Κ Φ (.mut m i a) ρ=(cS Κ Φ a ρ>>=λc=>match ρ[i]? with
 |some (Z9 (.fr,.list xs))=>jQ m xs c>>=λb=>.ok (.nx ((ρ.set i (Z9 (.fr,.list b))).map dW))
 |_=>.no):=rfl
theorem Vt:aI Κ Φ (.aX d a p) e=(evF Κ Φ a e>>=λw=>dA (λx b=>cZ d (gJ x w.1,x) b>>=λc=>aI Κ Φ p c) w.2.1 w.2.2):=rfl
theorem LB:dA f (x::xs) ρ=(match f x ρ with
 |.ok (.nx ρ')=>dA f xs ρ'
 |.ok (.rt g d)=>.ok (.rt g d)
 |.exc e=>.exc e
 |.no=>.no):=rfl
theorem FC:cS Κ Φ .nil ρ=.ok []:=rfl
theorem vP:cS Κ Φ (.cons a b) ρ=(aG Κ Φ a ρ>>=λx=>cS Κ Φ b ρ>>=λxs=>.ok (x::xs)):=rfl
theorem FD:rT Κ Φ (.tv a) ρ=(aG Κ Φ a ρ>>=λx=>rR x.2):=rfl
theorem y9:CP Κ Φ (.tv a) ρ=(aG Κ Φ a ρ>>=λx=>z4n x.2>>=λp=>.ok (x.1,p)):=rfl
theorem FE:dX Κ Φ (.tv a) ρ=(aG Κ Φ a ρ>>=λx=>iH x.2):=rfl
theorem Vu:dX Κ Φ (.and a b) d=(dX Κ Φ a d>>=λc=>if c then dX Κ Φ b d else .ok Z6):=rfl
theorem FF:dX Κ Φ (.or a b) d=(dX Κ Φ a d>>=λc=>if c then .ok Z7 else dX Κ Φ b d):=rfl
theorem Vw:dX Κ Φ (.not a) ρ=(dX Κ Φ a ρ>>=λc=>.ok (!c)):=rfl
theorem FG:evW Κ Φ (.tv a) ρ=(aG Κ Φ a ρ>>=λx=>z53 x.2>>=λxs=>.ok (x.1,xs)):=rfl
theorem Vx:evW Κ Φ (.gM a) ρ=(cS Κ Φ a ρ>>=λb=>jO (b.map (·.2))>>=λxs=>.ok (.fr,xs)):=rfl
theorem LC:evF Κ Φ (.tv (.var i)) ρ=(if jR ρ i then Ag i ρ else if fQ Κ Φ (.tv (.var i)) ρ then aG Κ Φ (.var i) ρ>>=λx=>jS x ρ else mQ Κ Φ (.tv (.var i)) ρ):=rfl
theorem FH (b:∀i,a≠.var i):evF Κ Φ (.tv a) ρ=(if fQ Κ Φ (.tv a) ρ then aG Κ Φ a ρ>>=λx=>jS x ρ else mQ Κ Φ (.tv a) ρ):=by cases a<;>first|exact absurd rfl (b _)|rfl
end
theorem bJ (h:aI Κ Φ a ρ=.ok (.nx ρ'))(k:aI Κ Φ b ρ'=r):aI Κ Φ (.seq a b) ρ=r:=by rw[Ly,h];exact k
theorem cL (h:aI Κ Φ a ρ=.ok (.rt g d)):aI Κ Φ (.seq a b) ρ=.ok (.rt g d):=by rw[Ly,h];rfl
theorem cM (h:aI Κ Φ s (a.map (λd=>Z9 (.od,d))++bp (n-a.length) Z8)=.ok (.rt g d)):aP Κ Φ n s a=.ok (g,d):=by unfold aP;rw[h]
theorem LD {g i:Type}{m:i->D}(I:g->Rho->Prop)(step:g->i->g):∀(d:List i) a b,(∀a x b,x∈d->I a b->∃c,f (m x) b=.ok (.nx c)/\I (step a x) c)->I a b->∃c,dA f (d.map m) b=.ok (.nx c)/\I (d.foldl step a) c
 | [],a,b,_,h=>⟨b,rfl,h⟩
 |x::d,a,b,hf,h=>by obtain⟨j,e,l⟩:=hf a x b ah h;obtain⟨k,n,o⟩:=LD I step d (step a x) j (λa y b p=>hf a y b (av _ p)) l;exact⟨k,by rw[bg,LB,e];exact n,o⟩
theorem LF {k:Type}{m:k->D}(I:List k->Rho->Prop):∀g pre a,(∀b x c a,pre++g=b++x::c->I b a->∃d,f (m x) a=.ok (.nx d)/\I (b++[x]) d)->I pre a->∃d,dA f (g.map m) a=.ok (.nx d)/\I (pre++g) d
 | [],pre,a,_,h=>⟨a,rfl,by rw[dg];exact h⟩
 |x::g,pre,a,hf,h=>by
  obtain⟨i,e,n⟩:=hf pre x g a rfl h;have l:pre++[x]++g=pre++x::g:=by rw[du];rfl
  obtain⟨j,o,p⟩:=LF I g (pre++[x]) i (λb y c a q=>hf b y c a (l▸q)) n;exact⟨j,by rw[bg,LB,e];exact o,l▸p⟩
theorem LG {b:Type}{m:b->D}(g:b->Option D):∀(a:List b),(∀x∈a,f (m x)=.ok ((g x).map λd=>(.fr,d)))->jP f (a.map m)=.ok ((a.filterMap g).map λd=>(.fr,d))
 | [],_=>rfl
 |x::a,h=>by
  rw[bg,jP,h x ah,LG g a λy c=>h y (av _ c)];cases e:g x with
  |none=>rw[qd e];rfl
  |some d=>rw[qe e];rfl
theorem Vy (a:List D):qA (a.map λd=>(G.fr,d))=.fr:=by unfold qA;rw[xp];rw[List.all_map];exact a9.mpr λ_ _=>rfl
theorem Vz (a:List D):cI (a.map λd=>(G.fr,d))=.fr:=by unfold cI;rw[xp];rw[a9];intro x b;obtain⟨d,_,rfl⟩:=a6.mp b;rfl
theorem FI (a:List D):(a.map λd=>(G.fr,d)).map (λx=>x.2)=a:=by rw[gb];exact List.map_id _
theorem VA (a b:Int):gO "max" [.int a,.int b]=.ok (.int (max a b)):=rfl
theorem VB (a b:Int):gO "min" [.int a,.int b]=.ok (.int (min a b)):=rfl
theorem VC (l:P)(n:Str)(v:Int):mtD "get" (.dict (en l)) [.str n,.int v]=.ok (.int ((cF l n).getD v)):=by have:mtD "get" (.dict (en l)) [.str n,.int v]=.ok ((fV (en l) (.str n)).getD (.int v)):=rfl;rw[this,Lk];cases cF l n<;>rfl
theorem FJ (l:P)(n:Str):mtD "get" (.dict (en l)) [.str n,.int 0]=.ok (.int (look l n)):=VC l n 0
theorem LH (l:Bool)(a:List D):aggD "list" l a=.ok (.list a):=rfl
theorem LI (b:Bool)(nd:(ks l).Nodup):aggD "dict" b (l.map pr)=.ok (.dict (en l)):=by show Res.eE ((jL [] (l.map pr)).map PyData.dict)=_;rw[Vm nd];rfl
def chr (z:Str)(i:Int):Str:=⟨#[z.cps.toList.getD i.toNat 0]⟩
theorem VD (a b:Str):(a++b).length=a.length+b.length:=by show Array.size (a.cps++b.cps)=_;rw[wa];rfl
theorem Be {b:Type}(a:List b)(i:Int)(d:b)(h0:0<=i)(c:i<a.length):cY a i=Z9 (a.getD i.toNat d):=by
 unfold cY iT;rw[xp h0,xp c];show a[i.toNat]?=_;have:i.toNat<a.length:=by omega
 rw[az,ba this];rfl
theorem z7 (h0:0<=i)(a:i<z.length)(b:z.length<=1000):iJ (.str z) (.int i)=.ok (.str (chr z i)):=by show(if z.length<=aU then Res.eE ((cY z.cps.toList i).map λc=>Z2 ⟨#[c]⟩)else .no)=_;rw[xp (by unfold aU;omega),Be _ i 0 h0 (bq▸a)];rfl
theorem za {ns:List Int}{i:Int}(h0:0<=i)(a:i<ns.length):iJ (.list (ns.map .int)) (.int i)=.ok (.int (ns.getD i.toNat 0)):=by
 show Res.eE (cY (ns.map Z0) i)=_;rw[Be _ i (.int 0) h0 (by rw[af];exact a)]
 congr 1
 have:i.toNat<ns.length:=by omega
 rw[az,az,bt,ba this];rfl
theorem getD_mem {a:Type}{ns:List a}{i:Int}{d:a}(h0:0<=i)(b:i<ns.length):ns.getD i.toNat d∈ns:=by grind
theorem add_str (h:a.length+b.length<=1000):cB .Add (.str a) (.str b)=.ok (.str (a++b)):=by show(if _ then _ else _)=_;rw[xp (by unfold aU;omega)]
theorem add_list (h:a.length+b.length<=1000):cB .Add (.list a) (.list b)=.ok (.list (a++b)):=by show(if _ then _ else _)=_;rw[xp (by unfold aU;omega)]
theorem FK (h:-(2 ^ 64)<b/\b<2 ^ 64):cB .Mult (.int a) (.int b)=.ok (.int (a*b)):=by show(if _ then _ else _)=_;rw[xp (.inr h)]
theorem mX (h:-(2 ^ 64)<a/\a<2 ^ 64):cB .Mult (.int a) (.int b)=.ok (.int (a*b)):=by show(if _ then _ else _)=_;rw[xp (.inl h)]
theorem eQ (h:0<b):cB .Mod (.int a) (.int b)=.ok (.int (a%b)):=by show(if _ then _ else _)=_;rw[xp h]
theorem VE:cB .Pow (.int 10) (.int 15)=.ok (.int 1000000000000000):=rfl
theorem VF:cB .Pow (.int 10) (.int 30)=.ok (.int 1000000000000000000000000000000):=rfl
theorem zb (h0:0<=n)(a:n<=1000):jO [.int n]=.ok ((cr n.toNat).map λ(i:Nat)=>.int i):=by show(if _ then _ else _)=_;rw[xp (by unfold aU;omega)]
theorem zc (ns:List Str):imms (ns.map .str)=true:=xT.mpr λx a=>by obtain⟨p,_,rfl⟩:=a6.mp a;rfl
theorem kK (ns:List Int):imms (ns.map .int)=true:=xT.mpr λx a=>by obtain⟨p,_,rfl⟩:=a6.mp a;rfl
theorem FN:∀ns,dI (ns.map .str)=Z9 ns
 | []=>rfl
 |n::ns=>by rw[bg,dI,FN ns];rfl
theorem VG:∀a,(∀s∈a,s.length=1)->(qC "" a).length=a.length
 | [],_=>rfl
 |x::r,h=>by
  show(li (x.cps.toList++(r.map λp=>([]:List Nat)++p.cps.toList).flatten)).size=_
  have b:∀(r:List Str),(∀s∈r,s.length=1)->((r.map λp=>([]:List Nat)++p.cps.toList).flatten).length=r.length:=by
   intro r
   induction r with
   |nil=>intro _;rfl
   |cons y r c=>intro h;rw[bg,mx,am,c λs hs=>h s (av _ hs)];have:(([]:List Nat)++y.cps.toList).length=1:=h y ah;rw[a8];omega
  rw[bn,am,b r λs hs=>h s (av _ hs)];have:x.cps.toList.length=1:=h x ah;rw[a8];omega
theorem VH (h:∀s∈a,s.length=1)(d:a.length<=1000):mtD "join" (.str "") [.list (a.map .str)]=.ok (.str (qC "" a)):=by
 have:mtD "join" (.str "") [.list (a.map .str)]=(match dI (a.map .str)with|some a=>if CO "" a<=aU then .ok (.str (qC "" a))else .no|none=>.no):=rfl;rw[this,FN]
 dsimp only
 rw[xp];unfold CO;have h0:("":Str).length=0:=rfl
 have b:∀(r:List Str),(∀s∈r,s.length=1)->(r.map (·.length)).sum=r.length:=by
  intro r
  induction r with
  |nil=>intro _;rfl
  |cons y r c=>intro h;rw[bg,List.sum_cons,h y ah,c λs hs=>h s (av _ hs),a8];omega
 rw[b a h,h0];unfold aU;omega
theorem mY (a b:Int):aY (.int a) (.int b)=decide (a=b):=by rfl
section
variable {Κ:List D}{Φ:List Fn}{ρ:Rho}
theorem vQ:aG Κ Φ (.var i) ρ=(Ae ρ[i]?):=rfl
theorem VI:aG Κ Φ (.bK) a=(.ok (.fr,.none)):=rfl
theorem FO:aG Κ Φ (.bl b) a=(.ok (.fr,.bool b)):=rfl
theorem VJ:aG Κ Φ (.int i) a=(.ok (.fr,.int i)):=rfl
theorem VL:aG Κ Φ (.str x) a=(.ok (.fr,.str x)):=rfl
theorem VM:aG Κ Φ (.glob k w1) ρ=(match Κ[k]? with|some d=>if imm d then .ok (.fr,d)else .no|none=>.no):=rfl
theorem LJ:aG Κ Φ (.bin e a b) c=(aG Κ Φ a c>>=λx=>aG Κ Φ b c>>=λy=>cB e x.2 y.2>>=λd=>.ok (gN d (cI [x,y]),d)):=rfl
theorem VN:aG Κ Φ (.cmp c a b) ρ=(aG Κ Φ a ρ>>=λx=>aG Κ Φ b ρ>>=λy=>cmpD c x.2 y.2>>=λb=>.ok (.fr,.bool b)):=rfl
theorem VO:aG Κ Φ (.lO b a) c=(aG Κ Φ a c>>=λx=>.ok (.fr,.bool (match x.2 with|.none=>!b|_=>b))):=rfl
theorem VP:aG Κ Φ (.and a b) d=(aG Κ Φ a d>>=λx=>match x.2 with|.bool c=>if c then aG Κ Φ b d else .ok (.fr,.bool Z6)|_=>.no):=rfl
theorem VQ:aG Κ Φ (.not a) b=(aG Κ Φ a b>>=λx=>iH x.2>>=λc=>.ok (.fr,.bool (!c))):=rfl
theorem LK:aG Κ Φ (.rP c a b) d=(dX Κ Φ c d>>=λk=>if k then aG Κ Φ a d else aG Κ Φ b d):=rfl
theorem LL:aG Κ Φ (.tup b) c=(cS Κ Φ b c>>=λa=>.ok (gJ (.tuple (a.map (·.2))) (cI a),.tuple (a.map (·.2)))):=rfl
theorem VR:aG Κ Φ (.lst b) ρ=(cS Κ Φ b ρ>>=λa=>.ok (cI a,.list (a.map (·.2)))):=rfl
theorem VS:aG Κ Φ (.rep xs b) ρ=(cS Κ Φ xs ρ>>=λys=>aG Κ Φ b ρ>>=λn=>lP ys n.2):=rfl
theorem VT:aG Κ Φ (.iG) ρ=(.ok (.fr,.dict [])):=rfl
theorem zd:aG Κ Φ (.ix a b) ρ=(aG Κ Φ a ρ>>=λx=>aG Κ Φ b ρ>>=λy=>iJ x.2 y.2>>=λd=>.ok (gJ d x.1,d)):=rfl
theorem zg:aG Κ Φ (.sl a c e) b=(aG Κ Φ a b>>=λx=>rT Κ Φ c b>>=λl=>rT Κ Φ e b>>=λh=>oA x.2 l h>>=λd=>.ok (gN d (cI [x]),d)):=rfl
theorem Bf:aG Κ Φ (.call k c args) a=(cS Κ Φ args a>>=λb=>match Φ[k]? with|some m=>m (b.map (·.2))>>=λr=>.ok (gJ r.2 (fO r.1),r.2)|none=>.no):=rfl
theorem FP:aG Κ Φ (.bi f args) a=(cS Κ Φ args a>>=λb=>gO f (b.map (·.2))>>=λd=>.ok (gJ d .al,d)):=rfl
theorem LM:aG Κ Φ (.eF f a) b=(CP Κ Φ a b>>=λw=>aggD f w.2.1 w.2.2>>=λd=>.ok (gJ d (if imms w.2.2 then .fr else agG w.1),d)):=rfl
theorem VU:aG Κ Φ (.iY a b) ρ=(aG Κ Φ a ρ>>=λx=>.ok (.fr,.bool (b.any λT=>jN (gP x.2) T))):=rfl
theorem FQ:aG Κ Φ (.mt m o args) a=(aG Κ Φ o a>>=λx=>cS Κ Φ args a>>=λb=>mtD m x.2 (b.map (·.2))>>=λd=>.ok (gJ d .al,d)):=rfl
theorem VV:aG Κ Φ (.sortI i) ρ=(match ρ[i]? with
 |some (Z9 (_,.dict a))=>if bV a&&lM (a.map ent)&&decide (a.length<64)then .ok (.fr,.list (z1b (a.map ent)))else .no
 |_=>.no):=rfl
theorem VW {a:C}:aG Κ Φ (.comp f g i h it a c) d=(evW Κ Φ it d>>=λw=>jP (λx=>cZ h (gJ x w.1,x) (bp f Z8++g.map λj=>iI (d.getD j Z8))>>=λb=>dX Κ Φ a b>>=λk=>if k then aG Κ Φ c b>>=λy=>.ok (Z9 y)else .ok Z8) w.2>>=λe=>.ok (qA e,.list (e.map (·.2)))):=rfl
end
section
variable {Κ:List D}{Φ:List Fn}{ρ:Rho}{a b c t o args:C}{x y d:D}{ds:List D}{k k':Bool}{g:G}
def Ev (Κ:List D)(Φ:List Fn)(c:C)(ρ:Rho)(d:D):Prop:=∃g,aG Κ Φ c ρ=.ok (g,d)
def Vv (Κ:List D)(Φ:List Fn)(c:C)(ρ:Rho)(d:D):Prop:=aG Κ Φ c ρ=.ok (.fr,d)/\imm d=Z7
def Aa (Κ:List D)(Φ:List Fn)(c:C)(ρ:Rho)(ds:List D):Prop:=∃ys,cS Κ Φ c ρ=.ok ys/\ys.map (·.2)=ds
def Av (Κ:List D)(Φ:List Fn)(c:C)(ρ:Rho)(ds:List D):Prop:=cS Κ Φ c ρ=.ok (ds.map λd=>(.fr,d))/\imms ds=Z7
def Tt (Κ:List D)(Φ:List Fn)(c:C)(ρ:Rho)(k:Bool):Prop:=dX Κ Φ c ρ=.ok k
theorem Vv.e (h:Vv Κ Φ c ρ d):Ev Κ Φ c ρ d:=⟨_,h.1⟩
theorem Ev.of (h:aG Κ Φ c ρ=.ok (g,d)):Ev Κ Φ c ρ d:=⟨_,h⟩
theorem aC (h:ρ[i]?=Z9 (Z9 (g,d))):Ev Κ Φ (.var i) ρ d:=⟨_,by rw[vQ];rw[h];rfl⟩
theorem v_var (h:ρ[i]?=Z9 (Z9 (g,d)))(a:imm d=Z7):Vv Κ Φ (.var i) ρ d:=⟨by rw[vQ];rw[h];show Res.ok (if imm d=Z7 then _ else _,d)=_;rw[xp a],a⟩
theorem aH:Vv Κ Φ (.int i) ρ (.int i):=⟨by rw[VJ],rfl⟩
theorem gA:Vv Κ Φ (.str i) ρ (.str i):=⟨by rw[VL],rfl⟩
theorem pE:Vv Κ Φ (.bl i) ρ (.bool i):=⟨by rw[FO],rfl⟩
theorem VX:Vv Κ Φ .bK ρ .none:=⟨by rw[VI],rfl⟩
theorem mZ (a:imm d=Z7):gJ d g=.fr:=by unfold gJ;rw[xp a]
theorem LN (a:imm d=Z7):gN d g=.fr:=by cases d<;>first|exact mZ a|cases a
theorem aT (ha:Ev Κ Φ a ρ x)(hb:Ev Κ Φ b ρ y)(h:cB op x y=.ok d)(c:imm d=Z7):Vv Κ Φ (.bin op a b) ρ d:=by obtain⟨e,ha⟩:=ha;obtain⟨f,hb⟩:=hb;refine⟨?_,c⟩;rw[LJ];rw[ha,Res.aB,hb,Res.aB];dsimp only;rw[h,Res.aB,LN c]
theorem Bg (ha:Ev Κ Φ a ρ x)(hb:Ev Κ Φ b ρ y)(h:cB op x y=.ok (.list xs))(hi:imms xs=Z7):aG Κ Φ (.bin op a b) ρ=.ok (.fr,.list xs):=by obtain⟨g1,ha⟩:=ha;obtain⟨g2,hb⟩:=hb;rw[LJ];rw[ha,Res.aB,hb,Res.aB];dsimp only;rw[h];show Res.ok (if imms xs=Z7 then _ else _,_)=_;rw[xp hi]
theorem cJ (c:Ev Κ Φ a ρ x)(d:Ev Κ Φ b ρ y)(h:cmpD e x y=.ok k):Vv Κ Φ (.cmp e a b) ρ (.bool k):=by obtain⟨g1,c⟩:=c;obtain⟨g2,d⟩:=d;refine⟨?_,rfl⟩;rw[VN];rw[c,Res.aB,d,Res.aB];dsimp only;rw[h];rfl
def FR:D->Bool
 |.none=>Z7
 |_=>Z6
theorem VY (ha:Ev Κ Φ a ρ x):Vv Κ Φ (.lO ng a) ρ (.bool (if FR x then !ng else ng)):=by obtain⟨g1,ha⟩:=ha;refine⟨?_,rfl⟩;rw[VO];rw[ha];cases x<;>rfl
theorem v_and (ha:Ev Κ Φ a ρ (.bool k))(hb:k=Z7->Vv Κ Φ b ρ (.bool k')):Vv Κ Φ (.and a b) ρ (.bool (k&&k')):=by
 obtain⟨g1,ha⟩:=ha;refine⟨?_,rfl⟩;rw[VP];rw[ha];cases k with
 |true=>exact(hb rfl).1
 |false=>rfl
theorem v_not (b:Ev Κ Φ a ρ x)(h:iH x=.ok k):Vv Κ Φ (.not a) ρ (.bool (!k)):=by obtain⟨c,b⟩:=b;refine⟨?_,rfl⟩;rw[VQ];rw[b,Res.aB];dsimp only;rw[h];rfl
theorem LO (hc:Tt Κ Φ c ρ k)(h1:k=Z7->Vv Κ Φ a ρ x)(h2:k=Z6->Vv Κ Φ b ρ y):Vv Κ Φ (.rP c a b) ρ (if k then x else y):=by
 cases k with
 |true=>exact⟨by rw[LK];rw[hc];exact(h1 rfl).1,(h1 rfl).2⟩
 |false=>exact⟨by rw[LK];rw[hc];exact(h2 rfl).1,(h2 rfl).2⟩
theorem bW:Av Κ Φ .nil ρ []:=⟨rfl,rfl⟩
theorem bB (c:Vv Κ Φ a ρ x)(d:Av Κ Φ b ρ e):Av Κ Φ (.cons a b) ρ (x::e):=⟨by rw[vP,c.1,Res.aB,d.1];rfl,by show(imm x&&imms e)=Z7;rw[c.2,d.2];rfl⟩
theorem aJ:Aa Κ Φ .nil ρ []:=⟨[],rfl,rfl⟩
theorem aD (c:Ev Κ Φ a ρ x)(d:Aa Κ Φ b ρ f):Aa Κ Φ (.cons a b) ρ (x::f):=by obtain⟨g1,c⟩:=c;obtain⟨g,d,e⟩:=d;exact⟨_,by rw[vP,c,d];rfl,by rw[bg,e]⟩
theorem gB (h:Av Κ Φ args ρ ds):Vv Κ Φ (.tup args) ρ (.tuple ds):=by refine⟨?_,h.2⟩;rw[LL];rw[h.1,Res.aB,FI,mZ (d:=.tuple ds) h.2]
theorem LP (h:Aa Κ Φ args ρ ds):Ev Κ Φ (.tup args) ρ (.tuple ds):=by obtain⟨ys,h,e⟩:=h;exact⟨_,by rw[LL];rw[h,Res.aB,e]⟩
theorem eS (h:Av Κ Φ args ρ ds):aG Κ Φ (.lst args) ρ=.ok (.fr,.list ds):=by rw[VR];rw[h.1,Res.aB,FI,Vz]
theorem VZ (h:Av Κ Φ args ρ ds)(hb:Ev Κ Φ b ρ x)(hr:lP (ds.map λd=>(.fr,d)) x=.ok (g,d)):aG Κ Φ (.rep args b) ρ=.ok (g,d):=by obtain⟨a,hb⟩:=hb;rw[VS,h.1,hb];exact hr
theorem V0:aG Κ Φ .iG ρ=.ok (.fr,.dict []):=by rw[VT]
theorem aZ (c:Ev Κ Φ a ρ x)(e:Ev Κ Φ b ρ y)(h:iJ x y=.ok d)(f:imm d=Z7):Vv Κ Φ (.ix a b) ρ d:=by obtain⟨g1,c⟩:=c;obtain⟨g2,e⟩:=e;refine⟨?_,f⟩;rw[zd];rw[c,Res.aB,e,Res.aB];dsimp only;rw[h,Res.aB,mZ f]
def Oo (Κ:List D)(Φ:List Fn)(c:C)(ρ:Rho)(i:Option Int):Prop:=rT Κ Φ c ρ=.ok i
theorem mT:Oo Κ Φ .nil ρ none:=rfl
theorem jE (h:Ev Κ Φ a ρ (.int i)):Oo Κ Φ (.tv a) ρ (Z9 i):=by obtain⟨b,h⟩:=h;unfold Oo;rw[FD,h];rfl
theorem zh (e:Ev Κ Φ a f x)(g:Oo Κ Φ b f i)(hc:Oo Κ Φ c f j)(h:oA x i j=.ok d)(k:imm d=Z7):Vv Κ Φ (.sl a b c) f d:=by obtain⟨g1,e⟩:=e;unfold Oo at g hc;refine⟨?_,k⟩;rw[zg];rw[e,Res.aB,g,Res.aB,hc,Res.aB];dsimp only;rw[h,Res.aB,LN k]
theorem bF (ha:Aa Κ Φ args ρ ds)(hf:Φ[n]?=Z9 m)(h:m ds=.ok (g,d))(hi:imm d=Z7):Vv Κ Φ (.call n f args) ρ d:=by obtain⟨ys,ha,e⟩:=ha;refine⟨?_,hi⟩;rw[Bf];rw[ha,Res.aB,hf];dsimp only;rw[e,h,Res.aB,mZ hi]
theorem vM (ha:Aa Κ Φ args ρ ds)(hf:Φ[n]?=Z9 m)(h:m ds=.ok (g,d)):Ev Κ Φ (.call n f args) ρ d:=by obtain⟨ys,ha,e⟩:=ha;exact⟨_,by rw[Bf];rw[ha,Res.aB,hf];dsimp only;rw[e,h,Res.aB]⟩
theorem hU (ha:Aa Κ Φ args ρ ds)(hf:Φ[n]?=Z9 m)(h:m ds=.ok (.fr,.list xs)):aG Κ Φ (.call n f args) ρ=.ok (.fr,.list xs):=by obtain⟨ys,ha,e⟩:=ha;rw[Bf];rw[ha,Res.aB,hf];dsimp only;rw[e,h];rfl
theorem bX (ha:Aa Κ Φ args ρ ds)(h:gO f ds=.ok d)(hi:imm d=Z7):Vv Κ Φ (.bi f args) ρ d:=by obtain⟨ys,ha,e⟩:=ha;refine⟨?_,hi⟩;rw[FP];rw[ha,Res.aB,e,h,Res.aB,mZ hi]
theorem vR (b:Ev Κ Φ a ρ x)(hw:z4n x=.ok w)(h:aggD f w.1 w.2=.ok d)(c:imm d=Z7):Vv Κ Φ (.eF f (.tv a)) ρ d:=by obtain⟨e,b⟩:=b;refine⟨?_,c⟩;rw[LM];rw[y9,b,Res.aB];dsimp only;rw[hw];simp only[Res.aB];rw[h,Res.aB,mZ c]
theorem nB (b:Ev Κ Φ a ρ x)(c:z4n x=.ok w)(h:aggD f w.1 w.2=.ok d)(e:imms w.2=Z7):aG Κ Φ (.eF f (.tv a)) ρ=.ok (.fr,d):=by obtain⟨g1,b⟩:=b;rw[LM];rw[y9,b,Res.aB];dsimp only;rw[c];simp only[Res.aB];rw[h,Res.aB];unfold gJ;split<;>rfl
theorem FT (ha:Ev Κ Φ a ρ x):Vv Κ Φ (.iY a ts) ρ (.bool (ts.any λT=>jN (gP x) T)):=by obtain⟨g1,ha⟩:=ha;refine⟨?_,rfl⟩;rw[VU];rw[ha];rfl
theorem pF (a:Ev Κ Φ o ρ x)(b:Aa Κ Φ args ρ f)(h:mtD m x f=.ok d)(c:imm d=Z7):Vv Κ Φ (.mt m o args) ρ d:=by obtain⟨g1,a⟩:=a;obtain⟨g,b,e⟩:=b;refine⟨?_,c⟩;rw[FQ];rw[a,Res.aB,b,Res.aB,e];dsimp only;rw[h,Res.aB,mZ c]
theorem aO (h:Ev Κ Φ a ρ x)(b:iH x=.ok k):Tt Κ Φ (.tv a) ρ k:=by obtain⟨g1,h⟩:=h;unfold Tt;rw[FE,h];exact b
theorem tO:Tt Κ Φ .nil ρ true:=rfl
theorem FU (c:Tt Κ Φ a ρ k)(d:k=Z7->Tt Κ Φ b ρ k'):Tt Κ Φ (.and a b) ρ (k&&k'):=by
 unfold Tt at *
 rw[Vu,c];cases k with
 |true=>exact d rfl
 |false=>rfl
theorem hW (ha:Tt Κ Φ a ρ k)(hb:k=Z6->Tt Κ Φ b ρ k'):Tt Κ Φ (.or a b) ρ (k||k'):=by
 unfold Tt at *
 rw[FF,ha];cases k with
 |false=>exact hb rfl
 |true=>rfl
theorem jY (ha:Tt Κ Φ a ρ k):Tt Κ Φ (.not a) ρ (!k):=by
 unfold Tt at *
 rw[Vw,ha];rfl
theorem z1e {b:Type}{cond:C}{m:b->D}{xs:List b}(p:b->Bool)(f:b->D)(c:evW Κ Φ it ρ=.ok w)(a:w.2=xs.map m)(r:b->Rho)
  (d:∀x∈xs,cZ tg (gJ (m x) w.1,m x) (bp nt Z8++js.map λj=>iI (ρ.getD j Z8))=.ok (r x)) (hc:∀x∈xs,Tt Κ Φ cond (r x) (p x)) (g:∀x∈xs,p x=Z7->Vv Κ Φ elt (r x) (f x)):
  aG Κ Φ (.comp nt js N' tg it cond elt) ρ=.ok (.fr,.list ((xs.filter p).map f)):=by
 rw[VW];rw[c,Res.aB,a]
 rw[LG (λx=>if p x then Z9 (f x)else Z8) xs λx a=>by
  rw[d x a,Res.aB];have:=hc x a;rw[this];cases e:p x with
  |true=>rw[(g x a e).1];rfl
  |false=>rfl]
 rw[Res.aB,Vy,FI]
 have:(xs.filterMap λx=>if p x=Z7 then Z9 (f x)else Z8)=(xs.filter p).map f:=by
  clear a d hc g c
  induction xs with
  |nil=>rfl
  |cons x xs h=>
   cases e:p x with
   |true=>rw[qe (by rw[e];rfl),mj e,bg,h]
   |false=>rw[qd (by rw[e];rfl),mo (e▸c7),h]
 rw[this]
theorem cE (h:aG Κ Φ a ρ=.ok (g,x))(hw:z53 x=.ok xs):evW Κ Φ (.tv a) ρ=.ok (g,xs):=by rw[FG,h,Res.aB];dsimp only;rw[hw];rfl
theorem V1 (h:Aa Κ Φ args ρ ds)(hw:jO ds=.ok xs):evW Κ Φ (.gM args) ρ=.ok (.fr,xs):=by obtain⟨ys,h,e⟩:=h;rw[Vx,h,Res.aB,e,hw];rfl
theorem cW (h:Vv Κ Φ t ρ d):aI Κ Φ (.asg (.nm i) t) ρ=.ok (.nx (ρ.set i (Z9 (.al,d)))):=by rw[Fz,h.1];show Res.ok (Out.nx (ρ.set i (Z9 (if imm d then(.al,d)else _))))=_;rw[xp h.2]
theorem eC (h:aG Κ Φ t ρ=.ok (.fr,.list xs))(a:imms xs=Z7):aI Κ Φ (.asg (.nm i) t) ρ=.ok (.nx (ρ.set i (Z9 (.fr,.list xs)))):=by rw[Fz,h];show Res.ok (Out.nx (ρ.set i (Z9 (if imms xs then .fr else .nu,.list xs))))=_;rw[xp a]
theorem LQ (h:aG Κ Φ t ρ=.ok (.fr,.dict es))(a:bV es=Z7):aI Κ Φ (.asg (.nm i) t) ρ=.ok (.nx (ρ.set i (Z9 (.fr,.dict es)))):=by rw[Fz,h];show Res.ok (Out.nx (ρ.set i (Z9 (if bV es then .fr else .nu,.dict es))))=_;rw[xp a]
theorem FV (hv:∀i,t≠.var i):aI Κ Φ (.ret t) ρ=(aG Κ Φ t ρ>>=λx=>.ok (.rt (fO x.1) x.2)):=by cases t<;>first|exact absurd rfl (hv _)|rfl
theorem dH (h:Vv Κ Φ t ρ d):aI Κ Φ (.ret t) ρ=.ok (.rt .fr d):=by
 by_cases c:∀i,t≠.var i
 .rw[FV c,h.1];rfl
 obtain⟨i,rfl⟩:∃i,t=.var i:=by cases t<;>first|exact⟨_,rfl⟩|exact(c λi z=>by cases z).elim
 have a:=h.1;rw[vQ]at a;rw[Lz];cases hr:ρ[i]? with
 |none=>rw[hr]at a;cases a
 |some o=>
  cases o with
  |none=>rw[hr]at a;cases a
  |some gd=>
   obtain⟨g,b⟩:=gd;rw[hr]at a;have:b=d:=by have:=congrArg (λr:Res GD=>match r with|.ok p=>p.2|_=>.none) a;exact this
   subst this;show Res.ok (Out.rt (if imm b=Z7 then _ else _) b)=_;rw[xp h.2]
theorem vS (hv:∀i,t≠.var i)(h:aG Κ Φ t ρ=.ok (.fr,.list xs)):aI Κ Φ (.ret t) ρ=.ok (.rt .fr (.list xs)):=by rw[FV hv,h];rfl
theorem dV (hc:Tt Κ Φ c ρ k)(h1:k=Z7->aI Κ Φ p ρ=r)(h2:k=Z6->aI Κ Φ q ρ=r):aI Κ Φ (.bP c p q) ρ=r:=by
 rw[FA,hc];cases k with
 |true=>exact h1 rfl
 |false=>exact h2 rfl
theorem cG:aI Κ Φ .nil ρ=.ok (.nx ρ):=rfl
theorem LR {y:GD}(h:imm y.2=Z7):okIn y=true:=by unfold okIn;rw[h];rfl
theorem V2 (c:Vv Κ Φ b ρ x)(hk:Ev Κ Φ a ρ (.str n))(hr:ρ[i]?=Z9 (Z9 (.fr,.dict es)))(hl:es.length<aU):aI Κ Φ (.eD i a b) ρ=.ok (.nx ((ρ.set i (Z9 (.fr,.dict (dput es (.str n) x)))).map dW)):=by
 obtain⟨d,hk⟩:=hk;rw[Vs,c.1,Res.aB,hk,Res.aB,hr]
 dsimp only
 rw[xp];rw[LR c.2];exact xz hl
theorem V3 (c:Vv Κ Φ b ρ (.int v))(hk:Ev Κ Φ a ρ (.str n))(hr:ρ[i]?=Z9 (Z9 (.fr,.dict (en l))))(nd:(ks l).Nodup)(hl:l.length<64):aI Κ Φ (.eD i a b) ρ=.ok (.nx ((ρ.set i (Z9 (.fr,.dict (en (put l n v))))).map dW)):=by rw[V2 c hk hr (by rw[Lo];unfold aU;omega),Lm nd]
theorem pG (hv:Vv Κ Φ a ρ x)(hr:ρ[i]?=Z9 (Z9 (.fr,.list xs)))(hl:xs.length<1000):aI Κ Φ (.mut "append" i (.cons a .nil)) ρ=.ok (.nx ((ρ.set i (Z9 (.fr,.list (xs++[x])))).map dW)):=by
 rw[LA,vP,hv.1,Res.aB,FC,Res.aB,Res.aB,hr]
 dsimp only
 have:jQ "append" xs [(.fr,x)]=.ok (xs++[x]):=by show(if(okIn (G.fr,x)&&decide (xs.length<aU))=Z7 then _ else _)=_;rw[xp];rw[LR hv.2];refine xz ?_;unfold aU;omega
 rw[this];rfl
theorem zi (h:ρ[i]?=Z9 (Z9 (g,d)))(hg:g≠.fr)(hi:imm d=Z7)(hw:z53 d=.ok xs):evF Κ Φ (.tv (.var i)) ρ=.ok (.fr,xs,ρ):=by
 have e3:jR ρ i=false:=by
  unfold jR;rw[h];cases g with
  |fr=>exact absurd rfl hg
  |od=>rfl
  |al=>rfl
  |nu=>rfl
 rw[LC,e3];unfold fQ mQ;rw[cE ((v_var h hi).1) hw];rfl
theorem iO (h:ρ[i]?=Z9 (Z9 (.od,d)))(hi:imm d=Z6)(hw:z53 d=.ok xs):evF Κ Φ (.tv (.var i)) ρ=.ok (.od,xs,ρ):=by
 have e1:aG Κ Φ (.var i) ρ=.ok (.od,d):=by rw[vQ];rw[h];show Res.ok (if imm d=Z7 then _ else _,d)=_;rw[hi];rfl
 have e3:jR ρ i=false:=by unfold jR;rw[h]
 rw[LC,e3];unfold fQ mQ;rw[cE e1 hw];rfl
theorem zj (h:Aa Κ Φ args ρ ds)(hw:jO ds=.ok xs):evF Κ Φ (.gM args) ρ=.ok (.fr,xs,ρ):=by show mQ Κ Φ (.gM args) ρ=_;unfold mQ;rw[V1 h hw];rfl
theorem AJ (c:Ev Κ Φ a ρ x)(hb:Ev Κ Φ b ρ y)(hx:seqR x=.ok xs)(d:seqR y=.ok ys):evW Κ Φ (.zip a b) ρ=.ok (.al,zipD xs ys):=by obtain⟨g,c⟩:=c;obtain⟨e,hb⟩:=hb;show(aG Κ Φ a ρ>>=λx=>aG Κ Φ b ρ>>=λy=>seqR x.2>>=λxs=>seqR y.2>>=λys=>Res.ok (G.al,zipD xs ys))=_;rw[c,Res.aB,hb,Res.aB];rw[hx,d];rfl
theorem D8 {x y:GD}(ha:aG Κ Φ a ρ=.ok x)(hb:aG Κ Φ b ρ=.ok y)(ca:rV x=Z7)(cb:rV y=Z7)(hx:seqR x.2=.ok xs)(hy:seqR y.2=.ok ys):evF Κ Φ (.zip a b) ρ=.ok (.al,zipD xs ys,ρ):=by
 have e:cS Κ Φ (.cons a (.cons b .nil)) ρ=.ok [x,y]:=by rw[vP,ha,Res.aB,vP,hb,Res.aB,FC];rfl
 show(cS Κ Φ (.cons a (.cons b .nil)) ρ>>=λys=>jT ys ρ)=_;rw[e,Res.aB];unfold jT
 dsimp only
 rw[ca,cb];rw[hx,Res.aB,hy];rfl
theorem V4 (hl:xs.length<=1000):seqR (.list xs)=.ok xs:=by show(if decide (xs.length<=aU)=Z7 then Res.ok xs else .no)=_;rw[xz (show xs.length<=aU by unfold aU;omega)];rfl
theorem V5 (hl:xs.length<=1000):seqR (.tuple xs)=.ok xs:=by show(if decide (xs.length<=aU)=Z7 then Res.ok xs else .no)=_;rw[xz (show xs.length<=aU by unfold aU;omega)];rfl
theorem zk (h:imms xs=Z7)(hl:xs.length<=1000):seqR (.list xs)=.ok xs:=V4 hl
theorem V6 (h:imms xs=Z7)(hl:xs.length<=1000):seqR (.tuple xs)=.ok xs:=V5 hl
theorem Bh {β γ:Type}(m:β->D)(n:γ->D):∀(xs:List β) (ys:List γ),zipD (xs.map m) (ys.map n)=(xs.zip ys).map λp=>.tuple [m p.1,n p.2]
 | [],_=>by simp[zipD]
 |_::_,[]=>by simp[zipD]
 |x::xs,y::ys=>by rw[bg,bg,zipD,Bh m n xs ys];rfl
theorem FW (a:imm x=Z7)(b:imm y=Z7):cZ (.tp [i,j]) (gJ (.tuple [x,y]) g,.tuple [x,y]) ρ=.ok ((ρ.set i (Z9 (.al,x))).set j (Z9 (.al,y))):=by show Res.eE (Z9 ((ρ.set i (Z9 (iZ (gJ x _,x)))).set j (Z9 (iZ (gJ y _,y)))))=_;rw[mZ a,mZ b];rfl
theorem FX (hv:∀i,e0≠.var i)(h:aG Κ Φ e0 ρ=.ok (.fr,x'))(hw:z53 x'=.ok xs):evF Κ Φ (.tv e0) ρ=.ok (.fr,xs,ρ):=by
 have e2:=cE h hw;have e3:fQ Κ Φ (.tv e0) ρ=false:=by unfold fQ;rw[e2];rfl
 rw[FH hv,e3];unfold mQ;rw[e2];rfl
theorem Bi (h:evF Κ Φ it ρ=.ok w)(k:dA (λx ρ1=>cZ t' (gJ x w.1,x) ρ1>>=λcK=>aI Κ Φ p cK) w.2.1 w.2.2=r):aI Κ Φ (.aX t' it p) ρ=r:=by rw[Vt,h];exact k
theorem zp7 {d k:Type}{m:k->D}{j:List k}(h:evF Κ Φ it ρ=.ok (g,j.map m,ρ1))(I:d->Rho->Prop)(step:d->k->d)(l:d)(h0:I l ρ1)
  (hf:∀a x ρ,x∈j->I a ρ->∃b,(cZ n (gJ (m x) g,m x) ρ>>=λc=>aI Κ Φ p c)=.ok (.nx b)/\I (step a x) b) (hk:∀b,I (j.foldl step l) b->aI Κ Φ rest b=r):aI Κ Φ (.seq (.aX n it p) rest) ρ=r:=by
 obtain⟨b,e,i⟩:=LD (f:=λx ρ1=>cZ n (gJ x g,x) ρ1>>=λc=>aI Κ Φ p c) I step j l ρ1 hf h0;exact bJ (Bi h e) (hk b i)
theorem FY (a:Tt Κ Φ c ρ k)(hk:k=Z7)(h:aI Κ Φ p ρ=.ok (.rt g d)):aI Κ Φ (.seq (.bP c p q) rest) ρ=.ok (.rt g d):=cL (dV a (λ_=>h) λz=>by rw[hk]at z;cases z)
theorem Bj (hc:Tt Κ Φ c ρ k)(a:k=Z6)(h:aI Κ Φ rest ρ=r):aI Κ Φ (.seq (.bP c p .nil) rest) ρ=r:=bJ (dV hc (λz=>by rw[a]at z;cases z) λ_=>cG) h
theorem z3o (h:ρ[i]?=Z9 (Z9 (.fr,.list xs))):aI Κ Φ (.ret (.var i)) ρ=.ok (.rt .fr (.list xs)):=by rw[Lz,h];rfl
theorem aL {Q:Res Out->Prop}(h:aI Κ Φ p ρ=.ok (.nx ρ'))(k:Q (aI Κ Φ q ρ')):Q (aI Κ Φ (.seq p q) ρ):=by rw[bJ h rfl];exact k
theorem bT {Q:Res Out->Prop}(h:aI Κ Φ p ρ=.ok (.rt g d))(k:Q (.ok (.rt g d))):Q (aI Κ Φ (.seq p q) ρ):=by rw[cL h];exact k
theorem zvn {Q:Res Out->Prop}{β:Type}{m:β->D}{xs:List β}(h:evF Κ Φ it ρ=.ok (g,xs.map m,ρ1))(I:List β->Rho->Prop)(h0:I [] ρ1)
  (hf:∀pre x post ρ,xs=pre++x::post->I pre ρ->∃ρ',(cZ t' (gJ (m x) g,m x) ρ>>=λcK=>aI Κ Φ p cK)=.ok (.nx ρ')/\I (pre++[x]) ρ') (hk:∀ρ',I xs ρ'->Q (aI Κ Φ rest ρ')):Q (aI Κ Φ (.seq (.aX t' it p) rest) ρ):=by
 obtain⟨ρ',e,i⟩:=LF (f:=λx ρ1=>cZ t' (gJ x g,x) ρ1>>=λcK=>aI Κ Φ p cK) I xs [] ρ1 hf h0;rw[bJ (Bi h e) rfl];exact hk ρ' i
theorem zkr {Q:Res Out->Prop}{d:Type}{m:d->D}{e:List d}(h:evF Κ Φ i ρ=.ok (g,e.map m,f))(I:List d->Rho->Prop)(h0:I [] f)
  (hf:∀pre x b ρ,e=pre++x::b->I pre ρ->∃c a,cZ j (gJ (m x) g,m x) ρ=.ok c/\aI Κ Φ p c=.ok (.nx a)/\I (pre++[x]) a) (hk:∀a,I e a->Q (aI Κ Φ rest a)):Q (aI Κ Φ (.seq (.aX j i p) rest) ρ):=
 zvn h I h0 (λpre x b ρ k l=>by obtain⟨c,a,n,o,q⟩:=hf pre x b ρ k l;exact⟨a,by rw[n,Res.aB,o],q⟩) hk
theorem kL {Q:Res Out->Prop}(hc:Tt Κ Φ c ρ k)(hk:k=Z6)(h:Q (aI Κ Φ rest ρ)):Q (aI Κ Φ (.seq (.bP c p .nil) rest) ρ):=by rw[Bj hc hk rfl];exact h
theorem V7:Vv Κ Φ (.bin .Pow (.int 10) (.int 15)) ρ (.int 1000000000000000):=aT aH.e aH.e VE rfl
theorem FZ:Vv Κ Φ (.bin .Pow (.int 10) (.int 30)) ρ (.int 1000000000000000000000000000000):=aT aH.e aH.e VF rfl
end
end
open PySem
def zl:S:=(.seq (.bP (.not (.and (.tv (.iY (.var 0) ["str"])) (.tv (.cmp .In (.var 0) (.tup (.cons (.str "for") (.cons (.str "against") .nil)))))))
 (.seq (.pZ "NoSide")
 .nil)
 .nil)
 .nil)
def tP:Fn:=aP [] [] 1 zl
def zm:S:=(.seq (.drop (.call 0 "check_side" (.cons (.var 1) .nil)))
 (.seq (.ret (.rP (.tv (.cmp .Eq (.var 1) (.str "for"))) (.ix (.var 0) (.int 0)) (.ix (.var 0) (.int 1))))
 .nil))
def mE:Fn:=aP [] [tP] 2 zm
def zo:S:=(.seq (.asg (.nm 1) .iG)
 (.seq (.aX (.tp [2,3]) (.tv (.var 0))
 (.seq (.eD 1 (.var 2) (.bi "max" (.cons (.var 3) (.cons (.mt "get" (.var 1) (.cons (.var 2) (.cons (.int 0) .nil))) .nil))))
 .nil))
 (.seq (.ret (.eF "tuple" (.tv (.comp 1 [] ["pair"] (.nm 0) (.tv (.sortI 1)) (.tv (.cmp .Gt (.ix (.var 0) (.int 1)) (.int 0))) (.var 0)))))
 .nil)))
def tQ:Fn:=aP [] [] 4 zo
def zq:S:=(.seq (.ret (.mt "get" (.eF "dict" (.tv (.var 0))) (.cons (.var 1) (.cons (.int 0) .nil)))) .nil)
def kM:Fn:=aP [] [] 2 zq
def zr:S:=(.seq (.asg (.nm 2) (.eF "dict" (.tv (.var 1))))
 (.seq (.ret (.comp 2 [2] ["name","amount","held"] (.tp [0,1]) (.tv (.var 0)) (.tv (.cmp .Gt (.var 1) (.mt "get" (.var 2) (.cons (.var 0) (.cons (.int 0) .nil))))) (.var 0)))
 .nil))
def mF:Fn:=aP [] [] 3 zr
def zt:S:=(.seq (.ret (.cmp .Eq (.call 0 "over" (.cons (.var 0) (.cons (.var 1) .nil))) (.lst .nil))) .nil)
def fT:Fn:=aP [] [mF] 2 zt
def zu:S:=(.seq (.ret (.call 0 "greatest" (.cons (.bin .Add (.var 0) (.var 1)) .nil))) .nil)
def pH:Fn:=aP [] [tQ] 2 zu
def zv:S:=(.seq (.ret (.not (.eF "any" (.tv (.comp 1 [0] ["rival","one"] (.nm 0) (.tv (.var 1)) .nil (.and (.cmp .NotEq (.var 0) (.var 1)) (.call 0 "within" (.cons (.var 0) (.cons (.var 1) .nil))))))))) .nil)
def pI:Fn:=aP [] [fT] 2 zv
def zw:S:=(.seq (.asg (.nm 3) (.ix (.var 2) (.int 0)))
 (.seq (.asg (.nm 4) (.comp 1 [3,2] ["one","name","step"] (.nm 0) (.tv (.var 0)) (.tv (.cmp .Eq (.call 2 "degree" (.cons (.var 0) (.cons (.var 1) .nil))) (.ix (.var 2) (.int 1)))) (.var 0)))
 (.seq (.mut "extend" 4 (.cons (.comp 1 [2,3] ["one","step","name"] (.nm 0) (.tv (.var 1)) (.tv (.cmp .Gt (.call 2 "degree" (.cons (.var 0) (.cons (.var 2) .nil))) (.int 0))) (.call 1 "join" (.cons (.var 0) (.cons (.tup (.cons (.var 1) .nil)) .nil)))) .nil))
 (.seq (.asg (.nm 5) (.comp 1 [2] ["one","step"] (.nm 0) (.tv (.var 1)) .nil (.call 1 "join" (.cons (.var 0) (.cons (.tup (.cons (.var 1) .nil)) .nil)))))
 (.seq (.ret (.comp 1 [4] ["one","rivals"] (.nm 0) (.tv (.var 5)) (.tv (.call 0 "is_least" (.cons (.var 0) (.cons (.var 1) .nil)))) (.var 0)))
 .nil)))))
def pJ:Fn:=aP [] [pI,pH,kM] 6 zw
def zx:S:=(.seq (.asg (.nm 3) (.comp 1 [2] ["one","reach"] (.nm 0) (.tv (.var 0)) (.not (.tv (.call 3 "within" (.cons (.var 0) (.cons (.var 1) .nil))))) (.var 0)))
 (.seq (.asg (.nm 4) (.comp 1 [2] ["one","reach"] (.nm 0) (.tv (.var 0)) (.tv (.call 3 "within" (.cons (.var 0) (.cons (.var 1) .nil)))) (.var 0)))
 (.seq (.asg (.nm 5) (.eF "list" (.tv (.var 3))))
 (.seq (.aX (.nm 6) (.tv (.call 0 "over" (.cons (.var 1) (.cons (.var 2) .nil))))
 (.seq (.mut "extend" 5 (.cons (.call 1 "lifted" (.cons (.var 3) (.cons (.var 4) (.cons (.tup (.cons (.var 6) (.cons (.bin .Add (.call 2 "degree" (.cons (.var 2) (.cons (.var 6) .nil))) (.int 1)) .nil))) .nil)))) .nil))
 .nil))
 (.seq (.ret (.var 5))
 .nil)))))
def mG:Fn:=aP [] [mF,pJ,kM,fT] 7 zx
def F0:S:=(.seq (.asg (.nm 3) (.call 1 "side_of" (.cons (.var 1) (.cons (.var 2) .nil))))
 (.seq (.asg (.nm 4) (.lst (.cons (.tup .nil) .nil)))
 (.seq (.aX (.nm 5) (.tv (.var 0))
 (.seq (.bP (.and (.tv (.cmp .NotEq (.ix (.var 5) (.int 1)) (.var 2))) (.tv (.call 0 "within" (.cons (.ix (.var 5) (.int 2)) (.cons (.call 1 "side_of" (.cons (.var 1) (.cons (.ix (.var 5) (.int 1)) .nil))) .nil)))))
 (.seq (.asg (.nm 4) (.call 2 "beyond" (.cons (.var 4) (.cons (.var 3) (.cons (.call 1 "side_of" (.cons (.ix (.var 5) (.int 0)) (.cons (.var 2) .nil))) .nil)))))
 .nil)
 .nil)
 (.seq (.bP (.tv (.cmp .Gt (.bi "len" (.cons (.var 4) .nil)) (.glob 0 "MOST_REASONS")))
 (.seq (.pZ "TooMuch")
 .nil)
 .nil)
 .nil)))
 (.seq (.ret (.eF "sorted" (.tv (.var 4))))
 .nil))))
def zy:Fn:=aP [(.int 100)] [fT,mE,mG] 6 F0
def LS:S:=(.seq (.asg (.nm 2) (.bin .Add (.bin .Add (.bin .Mod (.var 0) (.int 1000000007)) (.bin .Mult (.bin .Mult (.int 31) (.var 1)) (.var 1))) (.int 1)))
 (.seq (.ret (.bin .Mod (.bin .Mult (.bin .Mod (.bin .Mult (.var 2) (.var 2)) (.int 2147483629)) (.bin .Add (.var 1) (.int 7))) (.int 2147483647)))
 .nil))
def iD:Fn:=aP [] [] 3 LS
def LU:S:=(.seq (.asg (.nm 2) (.str "bcdfghjklmnpqrstvwxyz"))
 (.seq (.asg (.nm 3) (.bin .Add (.int 1) (.bin .Mod (.var 0) (.int 12))))
 (.seq (.asg (.nm 4) (.bin .Mod (.bin .FloorDiv (.var 0) (.int 12)) (.var 3)))
 (.seq (.asg (.nm 5) (.lst .nil))
 (.seq (.aX (.nm 6) (.gM (.cons (.var 1) .nil))
 (.seq (.asg (.nm 7) (.str ""))
 (.seq (.aX (.nm 8) (.gM (.cons (.var 3) .nil))
 (.seq (.asg (.nm 9) (.bin .Add (.bin .Mult (.var 8) (.var 8)) (.bin .Mult (.bin .Mult (.int 4) (.var 6)) (.bi "int" (.cons (.cmp .Eq (.var 8) (.var 4)) .nil)))))
 (.seq (.asg (.nm 7) (.bin .Add (.var 7) (.ix (.var 2) (.bin .Mod (.bin .Add (.bin .FloorDiv (.var 0) (.int 144)) (.var 9)) (.int 21)))))
 .nil)))
 (.seq (.mut "append" 5 (.cons (.var 7) .nil))
 .nil))))
 (.seq (.ret (.eF "sorted" (.tv (.var 5))))
 .nil))))))
def tS:Fn:=aP [] [] 10 LU
def F3:S:=(.seq (.asg (.nm 1) (.bin .Add (.int 1) (.bin .Mod (.bin .FloorDiv (.var 0) (.int 4)) (.ix (.lst (.cons (.int 1) (.cons (.int 7) (.cons (.bin .Pow (.int 10) (.int 15)) (.cons (.bin .Sub (.bin .Pow (.int 10) (.int 30)) (.int 9)) .nil))))) (.bin .Mod (.var 0) (.int 4))))))
 (.seq (.bP (.tv (.cmp .Eq (.bin .Mod (.var 0) (.int 5)) (.int 1)))
 (.seq (.ret (.lst (.cons (.int 0) (.cons (.var 1) (.cons (.bin .Add (.var 1) (.int 1)) (.cons (.bin .Pow (.int 10) (.int 30)) .nil))))))
 .nil)
 .nil)
 (.seq (.ret (.lst (.cons (.int 0) (.cons (.var 1) (.cons (.bin .Add (.var 1) (.int 1)) (.cons (.bin .Add (.bin .Add (.var 1) (.int 2)) (.bin .Mod (.bin .FloorDiv (.var 0) (.int 20)) (.int 3))) .nil))))))
 .nil)))
def tT:Fn:=aP [] [] 2 F3
def F5:S:=(.seq (.asg (.nm 3) (.lst .nil))
 (.seq (.aX (.nm 4) (.gM (.cons (.var 1) .nil))
 (.seq (.mut "append" 3 (.cons (.bin .Mod (.var 0) (.var 2)) .nil))
 (.seq (.asg (.nm 0) (.bin .FloorDiv (.var 0) (.var 2)))
 .nil)))
 (.seq (.ret (.var 3))
 .nil)))
def eT:Fn:=aP [] [] 5 F5
def LW:S:=(.seq (.ret (.eF "tuple" (.tv (.comp 2 [] ["_law_word","_law_amount_here"] (.tp [0,1]) (.zip (.var 0) (.var 1)) (.tv (.cmp .Gt (.var 1) (.int 0))) (.tup (.cons (.var 0) (.cons (.var 1) .nil))))))) .nil)
def nD:Fn:=aP [] [] 2 LW
def F6:S:=(.seq (.asg (.nm 1) (.lst (.cons (.str "and") (.cons (.str "or") (.cons (.str "not") (.cons (.str "if") (.cons (.str "is") (.cons (.str "some") (.cons (.str "all") (.cons (.str "for") (.cons (.str "against") .nil)))))))))))
 (.seq (.asg (.nm 2) (.lst .nil))
 (.seq (.aX (.nm 3) (.tv (.var 0))
 (.seq (.asg (.nm 4) (.call 0 "_law_digits" (.cons (.bin .FloorDiv (.var 3) (.int 12)) (.cons (.bin .Add (.int 1) (.bin .Mod (.var 3) (.int 12))) (.cons (.int 26) .nil)))))
 (.seq (.asg (.nm 5) (.mt "join" (.str "") (.cons (.comp 1 [] ["_law_digit"] (.nm 0) (.tv (.var 4)) .nil (.ix (.str "abcdefghijklmnopqrstuvwxyz") (.var 0))) .nil)))
 (.seq (.asg (.nm 6) (.int 1))
 (.seq (.wh 100000 (.tv (.cmp .In (.var 5) (.bin .Add (.var 2) (.var 1))))
 (.seq (.asg (.nm 5) (.bin .Mult (.str "q") (.var 6)))
 (.seq (.asg (.nm 6) (.bin .Add (.var 6) (.int 1)))
 .nil)))
 (.seq (.mut "append" 2 (.cons (.var 5) .nil))
 .nil))))))
 (.seq (.ret (.var 2))
 .nil))))
def tU:Fn:=aP [] [eT] 7 F6
def Bl:S:=(.seq (.asg (.nm 3) (.call 3 "_law_mix" (.cons (.eF "sum" (.tv (.sl (.var 0) .nil (.tv (.int 63))))) (.cons (.int 5) .nil))))
 (.seq (.asg (.nm 4) (.ix (.bin .Add (.var 0) (.lst (.cons (.int 0) .nil))) (.int 0)))
 (.seq (.bP (.tv (.cmp .Eq (.bin .Mod (.var 4) (.int 2)) (.int 0)))
 (.seq (.asg (.nm 5) (.call 2 "_law_rungs" (.cons (.bin .Add (.bin .Mult (.call 3 "_law_mix" (.cons (.eF "sum" (.tv (.sl (.var 0) .nil (.tv (.int 63))))) (.cons (.int 6) .nil))) (.bin .Pow (.int 10) (.int 21))) (.var 3)) .nil)))
 (.seq (.ret (.tup (.cons (.var 3) (.cons (.call 1 "_law_names" (.cons (.var 3) (.cons (.int 3) .nil))) (.cons (.var 5) (.cons (.sl (.var 0) .nil (.tv (.var 1))) (.cons (.var 0) .nil)))))))
 .nil))
 .nil)
 (.seq (.asg (.nm 6) (.eF "sorted" (.tv (.call 0 "_law_free_names" (.cons (.sl (.bin .Add (.var 0) (.rep (.cons (.int 0) .nil) (.int 9))) (.tv (.int 1)) (.tv (.bin .Add (.int 2) (.bin .Mod (.bin .FloorDiv (.var 4) (.int 2)) (.var 2))))) .nil)))))
 (.seq (.asg (.nm 7) (.ix (.lst (.cons (.int 1) (.cons (.int 2) (.cons (.int 4) (.cons (.int 30) (.cons (.bin .Pow (.int 10) (.int 30)) .nil)))))) (.bin .Mod (.bin .FloorDiv (.var 4) (.bin .Mult (.int 2) (.var 2))) (.int 5))))
 (.seq (.ret (.tup (.cons (.var 3) (.cons (.var 6) (.cons (.lst (.cons (.var 7) .nil)) (.cons (.sl (.var 0) (.tv (.int 8)) (.tv (.bin .Add (.int 8) (.var 1)))) (.cons (.sl (.var 0) (.tv (.bin .Add (.int 8) (.var 1))) (.tv (.int 63))) .nil)))))))
 .nil))))))
def vU:Fn:=aP [] [tU,tS,tT,iD] 8 Bl
def F7:S:=(.seq (.bP (.tv (.cmp .Eq (.bi "len" (.cons (.var 2) .nil)) (.int 1)))
 (.seq (.ret (.call 0 "_law_packed" (.cons (.var 1) (.cons (.call 1 "_law_digits" (.cons (.var 0) (.cons (.bi "len" (.cons (.var 1) .nil)) (.cons (.bin .Add (.ix (.var 2) (.int 0)) (.int 1)) .nil)))) .nil))))
 .nil)
 .nil)
 (.seq (.ret (.call 0 "_law_packed" (.cons (.var 1) (.cons (.comp 1 [2] ["_law_digit","_law_rungs_here"] (.nm 0) (.tv (.call 1 "_law_digits" (.cons (.var 0) (.cons (.bi "len" (.cons (.var 1) .nil)) (.cons (.int 4) .nil))))) .nil (.ix (.var 1) (.var 0))) .nil))))
 .nil))
def Bm:Fn:=aP [] [nD,eT] 3 F7
def F8:S:=(.seq (.bP (.tv (.cmp .Eq (.bi "len" (.cons (.var 2) .nil)) (.int 1)))
 (.seq (.asg (.nm 3) (.call 3 "_law_digits" (.cons (.var 0) (.cons (.bin .Mult (.int 2) (.bi "len" (.cons (.var 1) .nil))) (.cons (.bin .Add (.ix (.var 2) (.int 0)) (.int 1)) .nil)))))
 (.seq (.ret (.tup (.cons (.call 2 "_law_packed" (.cons (.var 1) (.cons (.var 3) .nil))) (.cons (.call 2 "_law_packed" (.cons (.var 1) (.cons (.sl (.var 3) (.tv (.bi "len" (.cons (.var 1) .nil))) .nil) .nil))) .nil))))
 .nil))
 .nil)
 (.seq (.ret (.tup (.cons (.call 0 "_law_pack_by" (.cons (.call 1 "_law_mix" (.cons (.var 0) (.cons (.int 1) .nil))) (.cons (.var 1) (.cons (.var 2) .nil)))) (.cons (.call 0 "_law_pack_by" (.cons (.call 1 "_law_mix" (.cons (.var 0) (.cons (.int 2) .nil))) (.cons (.var 1) (.cons (.var 2) .nil)))) .nil))))
 .nil))
def qU:Fn:=aP [] [Bm,iD,nD,eT] 4 F8
def F9:S:=(.seq (.asg (.nm 3) (.int 4))
 (.seq (.bP (.tv (.cmp .Eq (.bi "len" (.cons (.var 2) .nil)) (.int 1)))
 (.seq (.asg (.nm 3) (.bin .Add (.ix (.var 2) (.int 0)) (.int 1)))
 .nil)
 .nil)
 (.seq (.asg (.nm 4) (.lst .nil))
 (.seq (.aX (.tp [5,6]) (.zip (.var 0) (.call 0 "_law_digits" (.cons (.var 1) (.cons (.bi "len" (.cons (.var 0) .nil)) (.cons (.var 3) .nil)))))
 (.seq (.asg (.nm 7) (.var 6))
 (.seq (.bP (.tv (.cmp .Gt (.bi "len" (.cons (.var 2) .nil)) (.int 1)))
 (.seq (.asg (.nm 7) (.ix (.var 2) (.var 6)))
 .nil)
 .nil)
 (.seq (.bP (.tv (.cmp .Gt (.bi "min" (.cons (.ix (.var 5) (.int 1)) (.cons (.var 7) .nil))) (.int 0)))
 (.seq (.mut "append" 4 (.cons (.tup (.cons (.ix (.var 5) (.int 0)) (.cons (.bi "min" (.cons (.ix (.var 5) (.int 1)) (.cons (.var 7) .nil))) .nil))) .nil))
 .nil)
 .nil)
 .nil))))
 (.seq (.ret (.eF "tuple" (.tv (.var 4))))
 .nil)))))
def vV:Fn:=aP [] [eT] 8 F9
def LX:S:=(.seq (.asg (.nm 3) (.bi "len" (.cons (.var 1) .nil)))
 (.seq (.asg (.nm 4) (.call 1 "_law_digits" (.cons (.bin .FloorDiv (.var 0) (.int 2)) (.cons (.bin .Mult (.int 3) (.var 3)) (.cons (.var 2) .nil)))))
 (.seq (.asg (.nm 5) (.sl (.var 4) (.tv (.bin .Mult (.bin .Mod (.var 0) (.int 2)) (.var 3))) .nil))
 (.seq (.asg (.nm 6) (.comp 1 [] ["_law_pair"] (.nm 0) (.zip (.var 5) (.sl (.var 4) (.tv (.bin .Mult (.int 2) (.var 3))) .nil)) .nil (.bi "min" (.cons (.var 0) .nil))))
 (.seq (.asg (.nm 7) (.tup (.cons (.call 0 "_law_packed" (.cons (.var 1) (.cons (.var 4) .nil))) (.cons (.call 0 "_law_packed" (.cons (.var 1) (.cons (.sl (.var 4) (.tv (.var 3)) .nil) .nil))) .nil))))
 (.seq (.ret (.tup (.cons (.var 7) (.cons (.ix (.lst (.cons (.str "for") (.cons (.str "against") .nil))) (.bin .Mod (.var 0) (.int 2))) (.cons (.call 0 "_law_packed" (.cons (.var 1) (.cons (.var 6) .nil))) .nil)))))
 .nil))))))
def vW:Fn:=aP [] [nD,eT] 8 LX
def Ga:S:=(.seq (.bP (.tv (.cmp .Eq (.bi "len" (.cons (.var 2) .nil)) (.int 1)))
 (.seq (.ret (.call 3 "_law_free_ruling" (.cons (.var 0) (.cons (.var 1) (.cons (.bin .Add (.ix (.var 2) (.int 0)) (.int 1)) .nil)))))
 .nil)
 .nil)
 (.seq (.asg (.nm 3) (.call 2 "_law_case_by" (.cons (.var 0) (.cons (.var 1) (.cons (.var 2) .nil)))))
 (.seq (.asg (.nm 4) (.call 1 "_law_mix" (.cons (.var 0) (.cons (.int 3) .nil))))
 (.seq (.asg (.nm 5) (.ix (.var 3) (.bin .Mod (.var 4) (.int 2))))
 (.seq (.bP (.tv (.cmp .Gt (.bin .Mod (.bin .FloorDiv (.var 4) (.int 2)) (.int 4)) (.int 0)))
 (.seq (.asg (.nm 5) (.call 0 "_law_less" (.cons (.var 5) (.cons (.call 1 "_law_mix" (.cons (.var 0) (.cons (.int 4) .nil))) (.cons (.var 2) .nil)))))
 .nil)
 .nil)
 (.seq (.ret (.tup (.cons (.var 3) (.cons (.ix (.lst (.cons (.str "for") (.cons (.str "against") .nil))) (.bin .Mod (.var 4) (.int 2))) (.cons (.var 5) .nil)))))
 .nil))))))
def zA:Fn:=aP [] [vV,iD,qU,vW] 6 Ga
def LY:S:=(.seq (.aX (.tp [2,3]) (.tv (.var 0))
 (.seq (.bP (.tv (.cmp .Eq (.var 2) (.var 1)))
 (.seq (.ret (.var 3))
 .nil)
 .nil)
 .nil))
 (.seq (.ret (.int 0))
 .nil))
def tV:Fn:=aP [] [] 4 LY
def LZ:S:=(.seq (.aX (.tp [2,3]) (.tv (.var 0))
 (.seq (.bP (.tv (.cmp .Gt (.var 3) (.call 0 "_law_amount" (.cons (.var 1) (.cons (.var 2) .nil)))))
 (.seq (.ret (.bl Z6))
 .nil)
 .nil)
 .nil))
 (.seq (.ret (.bl Z7))
 .nil))
def pK:Fn:=aP [] [tV] 4 LZ
def L0:S:=(.seq (.ret (.bi "int" (.cons (.cmp .Eq (.var 0) (.str "against")) .nil))) .nil)
def qV:Fn:=aP [] [] 1 L0
def L1:S:=(.seq (.bP (.tv (.cmp .Eq (.ix (.var 0) (.int 1)) (.ix (.var 1) (.int 1))))
 (.seq (.ret (.bl Z6))
 .nil)
 .nil)
 (.seq (.ret (.and (.call 0 "_law_fits" (.cons (.ix (.var 0) (.int 2)) (.cons (.ix (.ix (.var 1) (.int 0)) (.call 1 "_law_at" (.cons (.ix (.var 0) (.int 1)) .nil))) .nil))) (.call 0 "_law_fits" (.cons (.ix (.var 1) (.int 2)) (.cons (.ix (.ix (.var 0) (.int 0)) (.call 1 "_law_at" (.cons (.ix (.var 1) (.int 1)) .nil))) .nil)))))
 .nil))
def tW:Fn:=aP [] [pK,qV] 2 L1
def Gb:S:=(.seq (.asg (.nm 1) (.lst .nil))
 (.seq (.aX (.nm 2) (.tv (.var 0))
 (.seq (.bP (.tv (.cmp .Eq (.comp 1 [2] ["_law_two","_law_one"] (.nm 0) (.tv (.var 1)) (.tv (.call 0 "_law_clash" (.cons (.var 1) (.cons (.var 0) .nil)))) (.var 0)) (.lst .nil)))
 (.seq (.mut "append" 1 (.cons (.var 2) .nil))
 .nil)
 .nil)
 .nil))
 (.seq (.ret (.var 1))
 .nil)))
def Bo:Fn:=aP [] [tW] 3 Gb
def L3:S:=(.seq (.ret (.and (.iY (.var 0) ["int"]) (.not (.iY (.var 0) ["bool"])))) .nil)
def vX:Fn:=aP [] [] 1 L3
def L4:S:=(.seq (.aX (.nm 2) (.gM (.cons (.bi "len" (.cons (.var 0) .nil)) .nil))
 (.seq (.bP (.tv (.call 0 "_law_clash" (.cons (.ix (.var 0) (.var 2)) (.cons (.var 1) .nil))))
 (.seq (.ret (.var 2))
 .nil)
 .nil)
 .nil))
 (.seq (.ret .bK)
 .nil))
def Ge:Fn:=aP [] [tW] 3 L4
def L5:S:=(.seq (.bP (.tv (.lO Z6 (.var 1)))
 (.seq (.ret (.lO Z6 (.var 0)))
 .nil)
 .nil)
 (.seq (.ret (.and (.call 0 "_law_number" (.cons (.var 0) .nil)) (.cmp .Eq (.var 0) (.var 1))))
 .nil))
def V8:Fn:=aP [] [vX] 2 L5
def V9:S:=(.seq (.bP (.or (.not (.tv (.fG Z7 "NoSide"))) (.not (.tv (.fG Z7 "ValueError"))))
 (.seq (.ret (.bl Z6))
 .nil)
 .nil)
 (.seq (.asg (.nm 1) (.lst (.cons (.fG Z6 "NoPack") (.cons (.fG Z6 "TooMuch") (.cons (.fG Z6 "NoReason") .nil)))))
 (.seq (.asg (.nm 1) (.bin .Add (.var 1) (.lst (.cons (.fG Z6 "NoCourt") (.cons (.fG Z6 "Late") (.cons (.fG Z6 "NotAllowed") .nil))))))
 (.seq (.asg (.nm 1) (.bin .Add (.var 1) (.lst (.cons (.fG Z6 "NoRuling") (.cons (.fG Z6 "NotYours") (.cons (.fG Z6 "NoRow") .nil))))))
 (.seq (.asg (.nm 1) (.bin .Add (.var 1) (.lst (.cons (.fG Z6 "Twice") (.cons (.fG Z6 "Unknown") .nil)))))
 (.seq (.ret (.cmp .NotIn (.bl Z7) (.var 1)))
 .nil))))))
def L6:S:=(.seq (.asg (.nm 1) (.lst (.cons (.str "") (.cons (.str "For") (.cons (.str "none") (.cons (.str "fors") (.cons .bK (.cons (.int 1) (.cons (.bl Z7) (.cons (.int 0) (.cons (.lst (.cons (.str "for") .nil)) (.cons (.tup (.cons (.str "for") .nil)) (.cons (.tup (.cons (.str "for") (.cons (.str "against") .nil))) (.cons (.str "agianst") .nil))))))))))))))
 (.seq (.ret (.ix (.var 1) (.bin .Mod (.var 0) (.int 12))))
 .nil))
def Bp:Fn:=aP [] [] 2 L6
def L7:S:=(.asg (.nm 3) .bK)
def L8:Gd:=⟨0,(.cons (.var 0) (.cons (.var 1) (.cons (.var 2) .nil))),"NoSide",4,3,"_law_no_side",Z7⟩
def Bq:Fn:=gZ [zy] 5 L7 L8
def L9:S:=(.seq (.bP (.or (.not (.tv (.iY (.var 0) ["tuple"]))) (.or (.tv (.cmp .NotEq (.var 0) (.eF "tuple" (.tv (.eF "sorted" (.tv (.var 0))))))) (.not (.tv (.call 1 "_law_fits" (.cons (.var 0) (.cons (.var 1) .nil)))))))
 (.seq (.ret (.bl Z6))
 .nil)
 .nil)
 (.seq (.aX (.nm 2) (.tv (.var 0))
 (.seq (.bP (.or (.not (.tv (.iY (.var 2) ["tuple"]))) (.or (.tv (.cmp .NotEq (.bi "len" (.cons (.var 2) .nil)) (.int 2))) (.or (.not (.tv (.call 0 "_law_number" (.cons (.ix (.var 2) (.int 1)) .nil)))) (.tv (.cmp .Lt (.ix (.var 2) (.int 1)) (.int 1))))))
 (.seq (.ret (.bl Z6))
 .nil)
 .nil)
 .nil))
 (.seq (.ret (.cmp .Eq (.bi "len" (.cons (.var 0) .nil)) (.lset (.comp 1 [] ["_law_pair"] (.nm 0) (.tv (.var 0)) .nil (.ix (.var 0) (.int 0))))))
 .nil)))
def Gf:Fn:=aP [] [vX,pK] 3 L9
def L':S:=(.seq (.asg (.tp [2,3]) (.ix (.var 0) (.var 1)))
 (.seq (.bP (.tv (.cmp .Eq (.var 3) (.int 1)))
 (.seq (.ret (.bin .Add (.sl (.var 0) .nil (.tv (.var 1))) (.sl (.var 0) (.tv (.bin .Add (.var 1) (.int 1))) .nil)))
 .nil)
 .nil)
 (.seq (.ret (.bin .Add (.bin .Add (.sl (.var 0) .nil (.tv (.var 1))) (.tup (.cons (.tup (.cons (.var 2) (.cons (.bin .Sub (.var 3) (.int 1)) .nil))) .nil))) (.sl (.var 0) (.tv (.bin .Add (.var 1) (.int 1))) .nil)))
 .nil)))
def Br:Fn:=aP [] [] 4 L'
def Ma:S:=(.seq (.ret (.lO Z6 (.call 0 "_law_first_clash" (.cons (.var 0) (.cons (.tup (.cons (.var 1) (.cons (.var 2) (.cons (.var 3) .nil)))) .nil))))) .nil)
def zB:Fn:=aP [] [Ge] 4 Ma
def Mb:S:=(.seq (.aX (.nm 4) (.tv (.var 0))
 (.seq (.bP (.or (.not (.tv (.call 2 "_law_is_pack" (.cons (.var 4) (.cons (.ix (.var 2) (.call 3 "_law_at" (.cons (.var 3) .nil))) .nil))))) (.not (.tv (.call 0 "_law_allowed" (.cons (.var 1) (.cons (.var 2) (.cons (.var 3) (.cons (.var 4) .nil))))))))
 (.seq (.ret (.bl Z6))
 .nil)
 .nil)
 (.seq (.aX (.nm 5) (.gM (.cons (.bi "len" (.cons (.var 4) .nil)) .nil))
 (.seq (.bP (.tv (.call 0 "_law_allowed" (.cons (.var 1) (.cons (.var 2) (.cons (.var 3) (.cons (.call 1 "_law_lowered" (.cons (.var 4) (.cons (.var 5) .nil))) .nil))))))
 (.seq (.ret (.bl Z6))
 .nil)
 .nil)
 .nil))
 .nil)))
 (.seq (.ret (.cmp .Eq (.var 0) (.eF "sorted" (.tv (.var 0)))))
 .nil))
def Bt:Fn:=aP [] [zB,Br,Gf,qV] 6 Mb
def Mc:S:=(.seq (.asg (.nm 3) (.lst .nil))
 (.seq (.aX (.nm 4) (.tv (.var 0))
 (.seq (.aX (.nm 5) (.tv (.var 2))
 (.seq (.bP (.tv (.cmp .Eq (.var 5) (.int 0)))
 (.seq (.mut "append" 3 (.cons (.var 4) .nil))
 .nil)
 (.seq (.mut "append" 3 (.cons (.bin .Add (.var 4) (.tup (.cons (.tup (.cons (.var 1) (.cons (.var 5) .nil))) .nil))) .nil))
 .nil))
 .nil))
 .nil))
 (.seq (.ret (.var 3))
 .nil)))
def zC:Fn:=aP [] [] 6 Mc
def Gg:S:=(.seq (.asg (.nm 3) (.lst (.cons (.tup .nil) .nil)))
 (.seq (.aX (.tp [4,5]) (.tv (.var 1))
 (.seq (.asg (.nm 6) (.lst (.cons (.int 0) .nil)))
 (.seq (.aX (.nm 7) (.tv (.var 0))
 (.seq (.asg (.nm 8) (.bin .Add (.call 1 "_law_amount" (.cons (.ix (.ix (.var 7) (.int 0)) (.var 2)) (.cons (.var 4) .nil))) (.int 1)))
 (.seq (.bP (.and (.tv (.cmp .LtE (.var 8) (.var 5))) (.tv (.cmp .NotIn (.var 8) (.var 6))))
 (.seq (.mut "append" 6 (.cons (.var 8) .nil))
 .nil)
 .nil)
 .nil)))
 (.seq (.asg (.nm 3) (.call 0 "_law_wider" (.cons (.var 3) (.cons (.var 4) (.cons (.var 6) .nil)))))
 .nil))))
 (.seq (.ret (.var 3))
 .nil)))
def Bu:Fn:=aP [] [zC,tV] 9 Gg
def Md:S:=(.seq (.asg (.nm 4) (.call 3 "_law_at" (.cons (.var 3) .nil)))
 (.seq (.aX (.nm 5) (.tv (.call 0 "_law_grid" (.cons (.var 1) (.cons (.ix (.var 2) (.var 4)) (.cons (.var 4) .nil)))))
 (.seq (.bP (.and (.tv (.call 2 "_law_allowed" (.cons (.var 1) (.cons (.var 2) (.cons (.var 3) (.cons (.var 5) .nil)))))) (.tv (.cmp .Eq (.comp 1 [5] ["_law_one","_law_reason"] (.nm 0) (.tv (.var 0)) (.tv (.call 1 "_law_fits" (.cons (.var 0) (.cons (.var 1) .nil)))) (.var 0)) (.lst .nil))))
 (.seq (.ret (.bl Z6))
 .nil)
 .nil)
 .nil))
 (.seq (.ret (.bl Z7))
 .nil)))
def Bv:Fn:=aP [] [Bu,pK,zB,qV] 6 Md
def Me:S:=(.seq (.asg (.tp [1,2,3,4,5]) (.call 9 "_law_begun" (.cons (.var 0) (.cons (.int 8) (.cons (.int 3) .nil)))))
 (.seq (.uT (.asg (.nm 6) (.bi "int" (.cons (.cmp .Eq (.bi "len" (.cons (.var 3) .nil)) (.int 1)) .nil))))
 (.seq (.asg (.nm 7) (.call 7 "_law_whole_book" (.cons (.comp 1 [2,3] ["_law_cell","_law_words","_law_rungs_here"] (.nm 0) (.tv (.sl (.var 4) .nil (.tv (.ix (.lst (.cons (.int 8) (.cons (.int 4) .nil))) (.var 6))))) .nil (.call 8 "_law_ruling_by" (.cons (.var 0) (.cons (.var 1) (.cons (.var 2) .nil))))) .nil)))
 (.seq (.asg (.nm 8) (.eF "list" (.tv (.var 7))))
 (.seq (.aX (.nm 9) (.tv (.bin .Add (.sl (.var 5) .nil (.tv (.ix (.lst (.cons (.int 8) (.cons (.int 4) .nil))) (.var 6)))) (.lst (.cons (.int 5) .nil))))
 (.seq (.asg (.nm 10) (.call 6 "_law_case_by" (.cons (.ix (.lst (.cons (.call 2 "_law_mix" (.cons (.var 9) (.cons (.int 9) .nil))) (.cons (.bin .FloorDiv (.var 9) (.int 2)) .nil))) (.var 6)) (.cons (.var 2) (.cons (.var 3) .nil)))))
 (.seq (.asg (.nm 11) (.ix (.lst (.cons (.str "for") (.cons (.str "against") .nil))) (.bin .Mod (.ix (.lst (.cons (.call 2 "_law_mix" (.cons (.var 9) (.cons (.int 10) .nil))) (.cons (.var 9) .nil))) (.var 6)) (.int 2))))
 (.seq (.asg (.nm 12) (.call 3 "least_reasons" (.cons (.var 8) (.cons (.var 10) (.cons (.var 11) .nil)))))
 (.seq (.bP (.or (.not (.tv (.iY (.var 12) ["list"]))) (.not (.tv (.call 5 "_law_each_least" (.cons (.var 12) (.cons (.var 7) (.cons (.var 10) (.cons (.var 11) .nil))))))))
 (.seq (.ret (.bl Z6))
 .nil)
 .nil)
 (.seq (.bP (.or (.tv (.cmp .NotEq (.bi "len" (.cons (.var 12) .nil)) (.lset (.var 12)))) (.not (.tv (.call 4 "_law_none_lacks" (.cons (.var 12) (.cons (.var 7) (.cons (.var 10) (.cons (.var 11) .nil))))))))
 (.seq (.ret (.bl Z6))
 .nil)
 .nil)
 (.seq (.asg (.nm 13) (.eF "list" (.tv (.var 12))))
 (.seq (.mut "append" 12 (.cons (.tup .nil) .nil))
 (.seq (.bP (.tv (.cmp .NotEq (.call 3 "least_reasons" (.cons (.var 8) (.cons (.var 10) (.cons (.var 11) .nil)))) (.var 13)))
 (.seq (.ret (.bl Z6))
 .nil)
 .nil)
 (.seq (.bP (.not (.tv (.call 0 "_law_refused" (.cons (.var 8) (.cons (.var 10) (.cons (.call 1 "_law_odd" (.cons (.call 2 "_law_mix" (.cons (.var 9) (.cons (.int 26) .nil))) .nil)) .nil))))))
 (.seq (.ret (.bl Z6))
 .nil)
 .nil)
 .nil))))))))))
 (.seq (.ret (.cmp .Eq (.var 8) (.var 7)))
 .nil))))))
def Gh:Fn:=aP [] [Bq,Bp,iD,zy,Bv,Bt,qU,Bo,zA,vU] 14 Me
theorem V' (h:ρ[i]?=Z9 (Z9 (g,.dict (en l))))(hl:l.length<64):aG Κ Φ (.sortI i) ρ=.ok (.fr,.list ((srt l).map pr)):=by rw[VV];rw[h];dsimp only;rw[Lp,Vn,Ls,Lo,Fw];simp only[hl,decide_true,ui,if_true]
def vY (acc:P)(l:P):P:=l.foldl (λa p=>put a p.1 (max p.2 (look a p.1))) acc
theorem Gi:∀l a,(ks a).Nodup->(ks (vY a l)).Nodup
 | [],_,h=>h
 |p::l,a,h=>Gi l _ (Fs _ _ _ h)
theorem Mf (n:Str):∀l a,look (vY a l) n=l.foldl (λm p=>if p.1=n then max p.2 m else m) (look a n)
 | [],_=>rfl
 |p::l,a=>by
  have b:vY a (p::l)=vY (put a p.1 (max p.2 (look a p.1))) l:=rfl;rw[b,Mf n l,kr,Vk];split
  .rename_i e;rw[e]
  .rfl
theorem Bw (n:Str):∀(l:P) (m:Int),PK l->0<=m->l.foldl (λm p=>if p.1=n then max p.2 m else m) m=max m (look l n)
 | [],m,_,h=>by show m=max m 0;omega
 |p::l,m,hp,h=>by
  have tl:PK l:=⟨(cn.mp hp.sd).2,λx hx=>hp.pos x (av _ hx)⟩;rw[kr];by_cases e:p.1=n
  .have nn:n∉ks l:=by have :=hp.nd;rw[ks,bg,bw]at this;exact e▸this.1
   rw[xp e,Bw n l _ tl (by omega)];unfold look;rw[tM nn,cF,xp e];show max (max p.2 m) 0=max m p.2;omega
  .rw[xq e,Bw n l m tl h];unfold look;rw[cF,xq e]
def gr (l:P):P:=(srt (vY [] l)).filter λp=>decide (0<p.2)
def up (l:P):P:=(srt l).filter λp=>decide (0<p.2)
theorem Mg (n:Str):∀l,(ks l).Nodup->cF (l.filter λp=>decide (0<p.2)) n=(cF l n).filter λv=>decide (0<v)
 | [],_=>rfl
 |p::l,nd=>by
  rw[ks,bg,bw]at nd;have a:=Mg n l nd.2;by_cases h:0<p.2
  .rw[mj (by simpa using h),cF,cF];by_cases e:p.1=n
   .rw[xp e,xp e];show _=if decide (0<p.2)=Z7 then Z9 p.2 else Z8
    rw[xp (xz h)]
   .rw[xq e,xq e];exact a
  .rw[mo (by simpa using h),a,cF];by_cases e:p.1=n
   .rw[xp e,tM (e▸nd.1)];show Z8=if decide (0<p.2)=Z7 then Z9 p.2 else Z8
    rw[xq (by simpa using h)]
   .rw[xq e]
theorem Wa (nd:(ks l).Nodup):PK (up l):=⟨(Bd nd).filter _,λp a=>by simpa using(ce.mp a).2⟩
theorem Wb (nd:(ks l).Nodup)(n:Str):look (up l) n=max (look l n) 0:=by
 unfold look up;rw[Mg n _ (Fy (Bd nd)),Vr (Bc l) nd];cases h:cF l n with
 |none=>rfl
 |some v=>
  show Option.getD (if _ then _ else _) 0=max v 0;by_cases h:0<v
  .rw[xp (by simpa using h)];show v=_;omega
  .rw[xq (by simpa using h)];show 0=_;omega
theorem Gj (l:P):PK (gr l):=Wa (Gi l [] gm)
theorem Mh (nd:(ks l).Nodup)(h:∀k∈ks l,k∈ks m):l.length<=m.length:=by have:=y8 nd h;simpa[ks]using this
theorem Gk (l:P)(hl:l.length<64):tQ [pk l]=.ok (.fr,pk (gr l)):=by
 refine cM ?_;refine bJ (LQ V0 rfl) ?_;refine zp7 (zi rfl (by decide) (bI l) rfl) (λa ρ=>∃u v,ρ=[Z9 (.od,pk l),Z9 (.fr,.dict (en a)),u,v]/\(ks a).Nodup/\∀k∈ks a,k∈ks l) (λa p=>put a p.1 (max p.2 (look a p.1))) [] ⟨Z8,Z8,rfl,gm,λ_ h=>by cases h⟩ ?_ ?_
 .rintro a p ρ hp ⟨u,v,rfl,nd,hs⟩
  refine⟨_,bJ (V3 (bX (aD (aC rfl) (aD (pF (aC rfl) (aD (aC rfl) (aD aH.e aJ)) (FJ _ _) rfl).e aJ)) (VA _ _) rfl) (aC rfl) rfl nd (by have:=Mh nd hs;omega)) cG,_,_,rfl,Fs _ _ _ nd,λk hk=>?_⟩;rcases(Fq _ _ _ _).mp hk with rfl|hk
  .exact a6.mpr ⟨p,hp,rfl⟩
  .exact hs k hk
 .rintro ρ ⟨u,v,rfl,nd,hs⟩
  refine cL (dH (vR (Ev.of (z1e (λp=>decide (0<p.2)) pr (cE (V' rfl (by have:=Mh nd hs;exact l9 this hl)) rfl) rfl (λp=>[Z9 (.al,pr p)]) (λp _=>rfl) (λp _=>aO (cJ (aZ (aC rfl) aH.e rfl rfl).e aH.e rfl).e rfl) (λp _ _=>v_var rfl rfl))) rfl rfl (bI _)))
theorem zD (hb:PK b):mF [pk a,pk b]=.ok (.fr,.list ((a.filter λp=>decide (look b p.1<p.2)).map λp=>.str p.1)):=by refine cM ?_;refine bJ (LQ (nB (aC rfl) rfl (LI _ hb.nd) (Ba b)) (Lp b)) ?_;exact cL (vS (λi z=>by cases z) (z1e (λp=>decide (look b p.1<p.2)) (λp=>.str p.1) (cE (v_var rfl (bI a)).1 rfl) rfl (λp=>[Z9 (.al,.str p.1),Z9 (.al,.int p.2),Z9 (.al,.dict (en b))]) (λp _=>rfl) (λp _=>aO (cJ (aC rfl) (pF (aC rfl) (aD (aC rfl) (aD aH.e aJ)) (FJ _ _) rfl).e rfl).e rfl) (λp _ _=>v_var rfl rfl)))
def mt (a b:P):P:=(a.filter λp=>decide (p.1∈ks b)).map λp=>(p.1,min p.2 (look b p.1))
theorem Gp (h:a.length+b.length<64):pH [pk a,pk b]=.ok (.fr,pk (gr (a++b))):=by refine cM ?_;refine cL (dH (bF (aD (aT (aC rfl) (aC rfl) ?_ (bI _)).e aJ) rfl (Gk (a++b) (by rw[am];exact h)) (bI _)));show(if(a.map pr).length+(b.map pr).length<=aU then _ else _)=_;rw[xp (by rw[af,af];unfold aU;omega)];unfold pk;rw[b7]
theorem eq_nil (a:List D)(h:cQ 39 a=Z7):cmpD .Eq (.list a) (.list [])=.ok a.isEmpty:=by show(if(shal 40 (.list a)&&shal 40 (.list []))=Z7 then Res.ok (aY (.list a) (.list []))else .no)=_;rw[xp (by show(cQ 39 a&&Z7)=Z7;rw[h];rfl)];cases a<;>simp[aY,PyData.eqv,ZW]
theorem Wc (l:P):cQ 39 (l.map λp=>Z2 p.1)=true:=jJ.mpr λx a=>by obtain⟨p,_,rfl⟩:=a6.mp a;rfl
def wi (a b:P):Bool:=(a.filter λp=>decide (look b p.1<p.2)).isEmpty
theorem pL (hb:PK b):fT [pk a,pk b]=.ok (.fr,.bool (wi a b)):=by refine cM ?_;refine cL (dH (cJ (vM (aD (aC rfl) (aD (aC rfl) aJ)) rfl (zD hb)) (Ev.of (eS bW)) ?_));rw[eq_nil _ (Wc _)];unfold wi;rw[List.isEmpty_map]
theorem Mj:∀(a:List Int),fP (a.map .int)=Z9 a.sum
 | []=>rfl
 |x::a=>by rw[bg,fP,Mj a];rfl
theorem Ml (c:PK a)(d:PK b):wi a b=Z7↔∀n,look a n<=look b n:=by
 unfold wi;rw[jf,gc];constructor
 .intro h n;by_cases hn:n∈ks a
  .obtain⟨v,e⟩:=Li hn;have:=h _ (tN e);have f:look a n=v:=by unfold look;rw[e];rfl
   simp at this;rw[f];omega
  .have :look a n=0:=by unfold look;rw[tM hn];rfl
   rw[this];exact d.bN n
 .intro h p g;have:=h p.1;rw[c.aK g]at this;simp;omega
def jn (a b:P):P:=gr (a++b)
theorem Gq (ha:PK a)(hb:PK b)(n:Str):look (jn a b) n=max (look a n) (look b n):=by have na:=ha.bN n;show look (up (vY [] (a++b))) n=_;rw[Wb (Gi _ [] gm),Mf,List.foldl_append];have z:look [] n=0:=rfl;rw[z,Bw n a 0 ha (ki _),Bw n b _ hb (by omega)];omega
def sd (b:Bool):Str:=if b then "for"else "against"
def own (b:Bool)(f a:P):P:=if b then f else a
def Mm (b:Bool)(f a:P):P:=if b then a else f
def dJ (f a:P):D:=.tuple [pk f,pk a]
def rl (b:Bool)(f a r:P):D:=.tuple [dJ f a,.str (sd b),pk r]
theorem nG (f a:P):imm (dJ f a)=true:=by show imms [pk f,pk a]=Z7;rw[imms,imms,bI,bI];rfl
theorem Wd (b:Bool)(f a r:P):imm (rl b f a r)=true:=by show imms [dJ f a,.str (sd b),pk r]=Z7;rw[imms,imms,imms,nG,bI];rfl
theorem We (b:Bool):tP [.str (sd b)]=.ok (.fr,.none):=by cases b<;>rfl
theorem Wf (h:Ev Κ Φ t a d):aI Κ Φ (.drop t) a=.ok (.nx a):=by obtain⟨g,h⟩:=h;show(aG Κ Φ t a>>=λ_=>Res.ok (Out.nx a))=_;rw[h];rfl
theorem Gr (b:Bool)(f a:P):mE [dJ f a,.str (sd b)]=.ok (.fr,pk (own b f a)):=by
 refine cM ?_;refine bJ (Wf (vM (aD (aC rfl) aJ) rfl (We b))) ?_;cases b with
 |true=>exact cL (dH (LO (k:=Z7) (aO (cJ (aC rfl) gA.e rfl).e rfl) (λ_=>aZ (aC rfl) aH.e rfl (bI f)) (y:=pk f) λz=>by cases z))
 |false=>exact cL (dH (LO (k:=Z6) (aO (cJ (aC rfl) gA.e rfl).e rfl) (x:=pk a) (λz=>by cases z) λ_=>aZ (aC rfl) aH.e rfl (bI a)))
def ov (a b:P):List Str:=(a.filter λp=>decide (look b p.1<p.2)).map (·.1)
theorem Wg (a b:P):((a.filter λp=>decide (look b p.1<p.2)).map λp=>Z2 p.1)=(ov a b).map .str:=by unfold ov;rw[gb];rfl
def bi (b:Bool)(f a r f' a':P):Bool:=wi r (own b f' a')&&wi (Mm b f' a') (Mm b f a)
theorem mH (h:0<b)(c:b<2 ^ 200):cB .FloorDiv (.int a) (.int b)=.ok (.int (a/b)):=by show(if _ then _ else _)=_;rw[xp ⟨h,c⟩]
theorem Gs (cs:List Int):gO "len" [.list (cs.map .int)]=.ok (.int (cs.length:Int)):=by show Res.ok (Z0 ((cs.map Z0).length:Int))=_;rw[af]
theorem fU (ha:Ev Κ Φ a ρ x)(hb:Oo Κ Φ b ρ i)(hc:Oo Κ Φ c ρ j)(h:oA x i j=.ok d):Ev Κ Φ (.sl a b c) ρ d:=by obtain⟨g1,ha⟩:=ha;unfold Oo at hb hc;exact⟨_,by rw[zg];rw[ha,Res.aB,hb,Res.aB,hc,Res.aB];dsimp only;rw[h,Res.aB]⟩
theorem Wh {a c:Type}(f:a->c)(b:List a)(i j:Option Int):cut (b.map f) i j=(cut b i j).map f:=by unfold cut;rw[af,List.map_take,List.map_drop]
theorem pM (xs:List Int)(i j:Option Int):oA (.list (xs.map .int)) i j=.ok (.list ((cut xs i j).map .int)):=by show Res.ok (Z1 (cut (xs.map Z0) i j))=_;rw[Wh]
def ag (b:Bool)(f a r:P)(b':Bool)(f' a' r':P):Bool:=(!(b==b'))&&(wi r (own b f' a')&&wi r' (own b' f a))
theorem Wi (b a:Bool):(sd b==sd a)=(b==a):=by cases b<;>cases a<;>rfl
theorem vZ (hf:PK f)(c:PK a):PK (own b f a):=by cases b<;>assumption
def Nx (I:Rho->Prop)(z:Res Out):Prop:=∃ρ',z=.ok (.nx ρ')/\I ρ'
theorem nH (h:I ρ):Nx I (aI Κ Φ .nil ρ):=⟨ρ,cG,h⟩
theorem kZ (a:imm d=Z7):cZ (.nm j) (gJ d g,d) ρ=.ok (ρ.set j (Z9 (.al,d))):=by rw[mZ a];rfl
theorem q_nm {Q:Res Out->Prop}{β:Type}{m:β->D}{xs:List β}(h:evF Κ Φ it ρ=.ok (g,xs.map m,ρ1))(hm:∀x,imm (m x)=Z7)(I:List β->Rho->Prop)(h0:I [] ρ1)
  (hf:∀pre x post ρ,xs=pre++x::post->I pre ρ->Nx (I (pre++[x])) (aI Κ Φ p (ρ.set j (Z9 (.al,m x))))) (hk:∀ρ',I xs ρ'->Q (aI Κ Φ rest ρ')):Q (aI Κ Φ (.seq (.aX (.nm j) it p) rest) ρ):=
 zkr h I h0 (λpre x post ρ hx hI=>by obtain⟨ρ',h1,h2⟩:=hf pre x post ρ hx hI;exact⟨_,ρ',kZ (hm x),h1,h2⟩) hk
theorem Gu {b:Type}(m:b->D){a:List b}{i:Int}(d:b)(h0:0<=i)(c:i<a.length):iJ (.list (a.map m)) (.int i)=.ok (m (a.getD i.toNat d)):=by
 show Res.eE (cY (a.map m) i)=_;rw[Be _ i (m d) h0 (by rw[af];exact c)]
 congr 1
 have:i.toNat<a.length:=by omega
 rw[az,az,bt,ba this];rfl
theorem zE {a:Type}{m:a->D}(h:∀x,imm (m x)=Z7)(b:List a):imms (b.map m)=true:=xT.mpr λx c=>by obtain⟨p,_,rfl⟩:=a6.mp c;exact h p
theorem Gv (h:imm d=Z7):dW (Z9 (.al,d))=Z9 (.al,d):=by show(if imm d=Z7 then Z9 (G.al,d)else Z8)=_;rw[xp h]
theorem Mn {s:Type}{m:s->D}{Q:Res Out->Prop}(I:List s->Rho->Prop):∀k pre j,(∀l x n j,pre++k=l++x::n->I l j->(∃i,f (m x) j=.ok (.nx i)/\I (l++[x]) i)\/∃g d,f (m x) j=.ok (.rt g d)/\Q (.ok (.rt g d)))->I pre j->(∃i,dA f (k.map m) j=.ok (.nx i)/\I (pre++k) i)\/∃g d,dA f (k.map m) j=.ok (.rt g d)/\Q (.ok (.rt g d))
 | [],pre,j,_,h=>.inl ⟨j,rfl,by rw[dg];exact h⟩
 |x::k,pre,j,t,h=>by
  rcases t pre x k j rfl h with⟨i,e,v⟩|⟨g,d,e,q⟩
  .have u:pre++x::k=(pre++[x])++k:=by simp
   rcases Mn I k (pre++[x]) i (λa b c r hh=>t a b c r (u.trans hh)) v with⟨o,p,w⟩|⟨g,d,p,q⟩
   .exact .inl ⟨o,by rw[bg];show(match f (m x) j with|.ok (.nx i)=>dA f (k.map m) i|.ok (.rt g d)=>.ok (.rt g d)|.exc e=>.exc e|.no=>.no)=_;rw[e];exact p,by rw[u];exact w⟩
   .exact .inr ⟨g,d,by rw[bg];show(match f (m x) j with|.ok (.nx i)=>dA f (k.map m) i|.ok (.rt g d)=>.ok (.rt g d)|.exc e=>.exc e|.no=>.no)=_;rw[e];exact p,q⟩
  .exact .inr ⟨g,d,by rw[bg];show(match f (m x) j with|.ok (.nx i)=>dA f (k.map m) i|.ok (.rt g d)=>.ok (.rt g d)|.exc e=>.exc e|.no=>.no)=_;rw[e],q⟩
theorem zo9 {Q:Res Out->Prop}{n:Type}{m:n->D}{l:List n}(h:evF Κ Φ it k=.ok (g,l.map m,j))(I:List n->Rho->Prop)(h0:I [] j)
  (hf:∀pre x c k,l=pre++x::c->I pre k->∃a,cZ s (gJ (m x) g,m x) k=.ok a/\(Nx (I (pre++[x])) (aI Κ Φ p a)\/∃g d,aI Κ Φ p a=.ok (.rt g d)/\Q (.ok (.rt g d)))) (u:∀b,I l b->Q (aI Κ Φ rest b)):Q (aI Κ Φ (.seq (.aX s it p) rest) k):=by
 rcases Mn (f:=λx j=>cZ s (gJ x g,x) j>>=λa=>aI Κ Φ p a) I l [] j (λpre x c k v w=>by
  obtain⟨a,e,hh⟩:=hf pre x c k v w;rcases hh with⟨b,o,r⟩|⟨t,d,o,r⟩
  .exact .inl ⟨b,by rw[e,Res.aB,o],r⟩
  .exact .inr ⟨t,d,by rw[e,Res.aB,o],r⟩) h0 with⟨b,e,i⟩|⟨t,d,e,q⟩
 .rw[bJ (Bi h e) rfl];exact u b i
 .rw[cL (Bi h e)];exact q
theorem Gw {a:Type}{b:List a}{x:a×Nat}(h:x∈b.zipIdx):b[x.2]?=Z9 x.1:=ou.mp h
theorem Mo (h:Ev [] Φ t ρ (.int i)):Tt [] Φ (.tv (.cmp .Eq t (.int j))) ρ (decide (i=j)):=aO (cJ (k:=decide (i=j)) h aH.e (by show Res.ok (aY (.int _) (.int _))=_;rw[mY])).e rfl
theorem pN (c:Int)(h0:0<=k)(h1:k<=100):∃m,(0<=m/\m<2147483647)/\iD [.int c,.int k]=.ok (.fr,.int m):=by have hk:0<=k*k/\k*k<=10000:=⟨Int.mul_nonneg h0 h0,by have:=Int.mul_le_mul h1 h1 h0 (by decide);omega⟩;have e:31*k*k=31*(k*k):=Int.mul_assoc ..;generalize ha:c%1000000007+31*k*k+1=a;refine⟨(a*a%2147483629*(k+7))%2147483647,⟨ku _ (by decide),kj _ (by decide)⟩,cM ?_⟩;refine bJ (cW (d:=.int a) (by rw[<-ha];exact aT (aT (aT (aC rfl) aH.e (eQ (by decide)) rfl).e (aT (aT aH.e (aC rfl) (mX (by decide)) rfl).e (aC rfl) (FK ⟨by omega,by omega⟩) rfl).e rfl rfl).e aH.e rfl rfl)) ?_;exact cL (dH (aT (aT (aT (aT (aC rfl) (aC rfl) (mX ⟨by omega,by omega⟩) rfl).e aH.e (eQ (by decide)) rfl).e (aT (aC rfl) aH.e rfl rfl).e (FK ⟨by omega,by omega⟩) rfl).e aH.e (eQ (by decide)) rfl))
def DG (b:Int)(n:Nat)(ds:List Int):Prop:=ds.length=n/\∀d∈ds,0<=d/\d<b
theorem wA (c:Int)(h0:0<=n)(h1:n<=100)(hb:0<b)(Wj:b<2 ^ 200):∃ds,DG b n.toNat ds/\eT [.int c,.int n,.int b]=.ok (.fr,.list (ds.map .int)):=by
 suffices h:∃ds,DG b n.toNat ds/\aI [] [] F5 [Z9 (.od,.int c),Z9 (.od,.int n),Z9 (.od,.int b),Z8,Z8]=.ok (.rt .fr (.list (ds.map .int))) by obtain⟨ns,h1,h2⟩:=h;exact⟨ns,h1,cM h2⟩
 let Q:Res Out->Prop:=λr=>∃ds,DG b n.toNat ds/\r=.ok (.rt .fr (.list (ds.map .int)))
 show Q _;refine aL (eC (eS bW) rfl) ?_;refine q_nm (zj (aD (aC rfl) aJ) (zb h0 (by omega))) (λ_=>rfl) (λpre ρ=>∃g c' ds u,ρ=[Z9 (g,.int c'),Z9 (.od,.int n),Z9 (.od,.int b),Z9 (.fr,.list (ds.map .int)),u]/\DG b pre.length ds) ⟨_,c,[],Z8,rfl,rfl,λ_ h=>by cases h⟩ ?_ ?_
 .rintro pre x post ρ hx ⟨g,c',ds,u,rfl,hl,hd⟩
  have hp:pre.length<n.toNat:=by have:=congrArg gq hx;rw[gh,am,a8]at this;omega
  refine aL (pG (aT (aC rfl) (aC rfl) (eQ hb) rfl) rfl (by rw[af];omega)) ?_;refine aL (cW (aT (aC (g:=g) (by cases g<;>rfl)) (aC rfl) (mH hb Wj) rfl)) ?_;refine nH ⟨.al,c'/b,ds++[c'%b],Z9 (.al,.int x),?_,?_,?_⟩
  .rw[b7];rfl
  .rw[am,am,hl];rfl
  .intro d iW;rcases cf.mp iW with h|h
   .exact hd d h
   .cases ay.mp h;exact⟨ku _ (by omega),kj _ hb⟩
 .rintro ρ ⟨g,c',ds,u,rfl,hl,hd⟩
  rw[gh]at hl;exact bT (z3o rfl) ⟨ds,⟨hl,hd⟩,rfl⟩
def zp (ws:List Str)(ds:List Int):P:=(ws.zip ds).filter λp=>decide (0<p.2)
def Sw (ws:List Str):Prop:=ws.Pairwise sl
theorem Mp:∀{ws:List Str} {ds:List Int},Sw ws->(ws.zip ds).Pairwise λp q=>sl p.1 q.1
 | [],_,_=>by simp
 |_::_,[],_=>by simp
 |w::ws,d::ds,h=>by obtain⟨h1,h2⟩:=cn.1 h;refine cn.mpr ⟨λp hp=>h1 _ ?_,Mp h2⟩;exact(jt hp).1
theorem Mq (h:Sw ws):PK (zp ws ds):=⟨(Mp h).filter _,λp hp=>by simpa using(ce.mp hp).2⟩
theorem tX (hw:ws.length<=60)(hd:ds.length<=600):nD [.list (ws.map .str),.list (ds.map .int)]=.ok (.fr,pk (zp ws ds)):=by refine cM ?_;have hz:=AJ (Κ:=[]) (Φ:=[]) (ρ:=[Z9 (.od,.list (ws.map .str)),Z9 (.od,.list (ds.map .int))]) (aC (i:=0) rfl) (aC (i:=1) rfl) (zk (zc ws) (by rw[af];omega)) (zk (kK ds) (by rw[af];omega));rw[Bh]at hz;refine cL (dH (vR (w:=(Z7,(zp ws ds).map pr)) (x:=.list ((zp ws ds).map pr)) ⟨.fr,?_⟩ rfl rfl (bI _)));exact z1e (m:=λp:Str×Int=>PyData.tuple [.str p.1,.int p.2]) (λp=>decide (0<p.2)) pr hz rfl (λp=>[Z9 (.al,.str p.1),Z9 (.al,.int p.2)]) (λp _=>rfl) (λp _=>aO (cJ (aC rfl) aH.e rfl).e rfl) λp _ _=>gB (bB (v_var rfl rfl) (bB (v_var rfl rfl) bW))
theorem Wk (hz:z.cps.toList.Nodup)(hi:0<=i/\i<z.length)(hj:0<=j/\j<z.length)(h:chr z i=chr z j):i=j:=by
 have e:z.length=z.cps.toList.length:=by rw[bq];rfl
 unfold chr at h;have h1:z.cps.toList.getD i.toNat 0=z.cps.toList.getD j.toNat 0:=by have:=congrArg (λs:Str=>s.cps.toList) h;simpa using this
 have a1:i.toNat<z.cps.toList.length:=by omega
 have a2:j.toNat<z.cps.toList.length:=by omega
 rw[az,az,ba a1,ba a2]at h1;have:=(List.getElem_inj hz).mp h1;omega
def wd (f:Nat->Str):Nat->Str
 |0=>""
 |n+1=>wd f n++f n
theorem zF (hf:∀j,(f j).length=1):∀n,(wd f n).length=n
 |0=>rfl
 |n+1=>by rw[wd,VD,zF hf n,hf]
theorem app_list (a b:Str):(a++b).cps.toList=a.cps.toList++b.cps.toList:=by show(a.cps++b.cps).toList=_;rw[Array.toList_append]
theorem len_list (a:Str):a.cps.toList.length=a.length:=by rw[bq];rfl
theorem Mr (hf:∀j,(f j).length=1)(hg:∀j,(g j).length=1):∀n,wd f n=wd g n->∀j,j<n->f j=g j
 |0,_,_,h=>by omega
 |n+1,e,j,h=>by
  have e2:(wd f n).cps.toList++(f n).cps.toList=(wd g n).cps.toList++(g n).cps.toList:=by rw[<-app_list,<-app_list];exact congrArg (λs:Str=>s.cps.toList) e
  have hl:(wd f n).cps.toList.length=(wd g n).cps.toList.length:=by rw[len_list,len_list,zF hf,zF hg]
  obtain⟨e3,e4⟩:=List.append_inj e2 hl;by_cases hj:j=n
  .rw[hj];exact Fl e4
  .exact Mr hf hg n (Fl e3) j (by omega)
def wB:Str:="bcdfghjklmnpqrstvwxyz"
theorem Bz:wB.length=21:=rfl
theorem Wl:wB.cps.toList.Nodup:=by decide+kernel
def lt (c:Int)(at_ k:Nat)(j:Nat):Str:=chr wB ((c/144+((j:Int)*j+4*k*(if j=at_ then 1 else 0)))%21)
theorem zG (c:Int)(at_ k j:Nat):(lt c at_ k j).length=1:=rfl
theorem Wm (ha:at_<n)(hk:k<3)(YU:k'<3)(h:wd (lt c at_ k) n=wd (lt c at_ k') n):k=k':=by have:=Mr (zG c at_ k) (zG c at_ k') n h at_ ha;have:=Wk Wl (by rw[Bz];omega) (by rw[Bz];omega) this;rw[xp rfl]at this;generalize (at_:Int)*at_=z at this;omega
def iP (x:Str):List Str->List Str
 | []=>[x]
 |y::ys=>if decide (y.cps.toList<x.cps.toList)then y::iP x ys else x::y::ys
def eI:List Str->List Str
 | []=>[]
 |x::xs=>iP x (eI xs)
theorem Ms (x:Str):∀l:List Str,dQ (.str x) (l.map .str)=(iP x l).map .str
 | []=>rfl
 |y::ys=>by
  show(if bL (.str y) (.str x)then _ else _)=lx _ (if _ then _ else _);have e:bL (.str y) (.str x)=decide (y.cps.toList<x.cps.toList):=rfl;rw[e];cases decide (y.cps.toList<x.cps.toList)with
  |true=>show _::dQ (.str x) (ys.map .str)=_;rw[Ms x ys];rfl
  |false=>rfl
theorem Mt:∀l:List Str,z1b (l.map .str)=(eI l).map .str
 | []=>rfl
 |x::xs=>by show dQ (.str x) (z1b (xs.map .str))=_;rw[Mt xs,Ms];rfl
theorem Gx (x:Str):∀l,(iP x l).Perm (x::l)
 | []=>List.Perm.refl _
 |y::ys=>by
  unfold iP;split
  .exact((Gx x ys).cons y).trans (List.Perm.swap x y ys)
  .exact List.Perm.refl _
theorem wC:∀l,(eI l).Perm l
 | []=>List.Perm.refl _
 |x::xs=>(Gx x _).trans ((wC xs).cons x)
theorem Mu:∀{l:List Str},Sw l->x∉l->Sw (iP x l)
 | [],_,_=>gy _ _
 |y::ys,h,hn=>by
  obtain⟨h1,h2⟩:=cn.1 h;unfold iP;split
  .rename_i hd;refine cn.mpr ⟨λz hz=>?_,Mu h2 λz=>hn (av _ z)⟩;rcases aw.mp ((Gx x ys).mem_iff.mp hz)with rfl|hz
   .show y.cps.toList<_;exact xv hd
   .exact h1 z hz
  .rename_i hd;have Mv:=(Fp (λe=>hn (by rw[e];exact ah))).elim id λz=>(hd (xz z)).elim;refine cn.mpr ⟨λz hz=>?_,h⟩;rcases aw.1 hz with rfl|hz
   .exact Mv
   .exact A8 Mv (h1 z hz)
theorem Gy:∀{l:List Str},l.Nodup->Sw (eI l)
 | [],_=>List.Pairwise.nil
 |x::xs,h=>by obtain⟨h1,h2⟩:=bw.mp h;exact Mu (Gy h2) λz=>h1 ((wC xs).mem_iff.mp z)
theorem Wn (l:List Str):kQ (l.map .str)=true:=by
 unfold kQ lM;have:(l.map Z2).all uS=true:=a9.mpr λx hx=>by obtain⟨w,_,rfl⟩:=a6.mp hx;rfl
 rw[this,lj,mz,mz]
theorem Mw (h:l.length<64):aggD "sorted" Z7 (l.map .str)=.ok (.list ((eI l).map .str)):=by show(if(Z7&&kQ (l.map .str)&&decide ((l.map Z2).length<64))=Z7 then Res.ok (Z1 (z1b (l.map .str)))else .no)=_;rw[Wn,Mt,af,xz h];rfl
structure GW (ws:List Str):Prop where
 sw:Sw ws
 pos:0<ws.length
 len:ws.length<=6
 wl:∀w∈ws,w.length<=30
theorem Wo (hc:0<=c):∃ws,(GW ws/\ws.length=3)/\tS [.int c,.int 3]=.ok (.fr,.list (ws.map .str)):=by
 generalize hn:1+c%12=n;generalize ha:c/12%n=a;have n0:0<n/\n<=12:=by omega
 have a0:0<=a/\a<n:=by rw[<-ha];exact⟨ku _ (by omega),kj _ n0.1⟩
 let w:=λk=>wd (lt c a.toNat k) n.toNat
 have wl:∀k,(w k).length=n.toNat:=λk=>zF (zG c a.toNat k) _
 have nd:[w 0,w 1,w 2].Nodup:=by
  have h:∀i j,i<3->j<3->i≠j->w i≠w j:=λi j hi hj qP e=>qP (Wm (by omega) hi hj e);refine bw.mpr ⟨λz=>?_,bw.mpr ⟨λz=>?_,bw.mpr ⟨(λz=>by cases z),gm⟩⟩⟩
  .rcases aw.mp z with z|z
   .exact h 0 1 (by decide) (by decide) (by decide) z
   .exact h 0 2 (by decide) (by decide) (by decide) (ay.mp z)
  .exact h 1 2 (by decide) (by decide) (by decide) (ay.mp z)
 have Wq:(eI [w 0,w 1,w 2]).length=3:=(wC _).length_eq;refine⟨eI [w 0,w 1,w 2],⟨⟨Gy nd,by omega,by omega,λx hx=>?_⟩,Wq⟩,?_⟩
 .have hx:=(wC _).mem_iff.mp hx
  have:x.length=n.toNat:=by
   rcases aw.1 hx with rfl|hx
   .exact wl 0
   .rcases aw.1 hx with rfl|hx
    .exact wl 1
    .rw[ay.mp hx];exact wl 2
  omega
 refine cM ?_
 let Q:Res Out->Prop:=λr=>r=.ok (.rt .fr (.list ((eI [w 0,w 1,w 2]).map .str)))
 show Q _;refine aL (cW gA) ?_;refine aL (cW (d:=.int n) (by rw[<-hn];exact aT aH.e (aT (aC rfl) aH.e (eQ (by decide)) rfl).e rfl rfl)) ?_;refine aL (cW (d:=.int a) (by rw[<-ha];exact aT (aT (aC rfl) aH.e (mH (by decide) (by decide)) rfl).e (aC rfl) (eQ n0.1) rfl)) ?_;refine aL (eC (eS bW) rfl) ?_;refine q_nm (zj (aD (aC rfl) aJ) (zb (by decide) (by decide))) (λ_=>rfl) (λpre ρ=>∃u6 u7 u8 u9,ρ=[Z9 (.od,.int c),Z9 (.od,.int 3),Z9 (.al,.str wB),Z9 (.al,.int n),Z9 (.al,.int a),Z9 (.fr,.list ((pre.map w).map .str)),u6,u7,u8,u9]) ⟨Z8,Z8,Z8,Z8,rfl⟩ ?_ ?_
 .rintro pre x post ρ hx ⟨u6,u7,u8,u9,rfl⟩
  have hp:pre.length<3/\x<3:=by
   have h1:=congrArg gq hx;rw[gh,am,a8]at h1;have h2:x∈cr (3:Int).toNat:=by rw[hx];exact aq _ ah
   have:=iy.mp h2;omega
  refine aL (cW gA) ?_;refine q_nm (zj (aD (aC rfl) aJ) (zb (by omega) (by omega))) (λ_=>rfl) (λtY ρ=>tY=cr tY.length/\∃u8 u9,ρ=[Z9 (.od,.int c),Z9 (.od,.int 3),Z9 (.al,.str wB),Z9 (.al,.int n),Z9 (.al,.int a),Z9 (.fr,.list ((pre.map w).map .str)),Z9 (.al,.int x),Z9 (.al,.str (wd (lt c a.toNat x) tY.length)),u8,u9]) ⟨rfl,u8,u9,rfl⟩ ?_ ?_
  .rintro tY j YV ρ hj ⟨hr,u8,u9,rfl⟩
   have h1:=congrArg gq hj;rw[gh,am,a8]at h1;have Mx:j=tY.length:=by have:=congrArg (λl:List Nat=>l[tY.length]?) hj;simp only[fy (ar _),wc,List.getElem?_cons_zero]at this;rw[oy (by omega)]at this;exact(xr this)▸rfl
   have ej:decide ((j:Int)=a)=decide (j=a.toNat):=by apply decide_eq_decide.mpr;omega
   generalize hst:((j:Int)*j+4*x*(if j=a.toNat then 1 else 0))=st;refine aL (cW (d:=.int st) ?_) ?_
   .rw[<-hst];refine aT (aT (aC rfl) (aC rfl) (mX ⟨by omega,by omega⟩) rfl).e (aT (aT aH.e (aC rfl) (mX (by decide)) rfl).e (bX (aD (cJ (k:=decide (j=a.toNat)) (aC rfl) (aC rfl) ?_).e aJ) ?_ rfl).e (mX ⟨by omega,by omega⟩) rfl).e rfl rfl
    .show Res.ok (aY (.int j) (.int a))=_;rw[mY,ej]
    .show Res.ok (Z0 (if decide (j=a.toNat)=Z7 then 1 else 0))=_;by_cases hh:j=a.toNat
     .rw[xz hh,xp rfl,xp hh]
     .rw[x4 hh,xq (by decide),xq hh]
   have hi:iJ (.str wB) (.int ((c/144+st)%21))=.ok (.str (lt c a.toNat x j)):=by rw[z7 (by omega) (by rw[Bz];omega) (by rw[Bz];decide)];unfold lt;rw[hst]
   refine aL (cW (d:=.str (wd (lt c a.toNat x) tY.length++lt c a.toNat x j)) (aT (aC rfl) (aZ (aC rfl) (aT (aT (aT (aC rfl) aH.e (mH (by decide) (by decide)) rfl).e (aC rfl) rfl rfl).e aH.e (eQ (by decide)) rfl).e hi rfl).e (add_str (by rw[zF (zG _ _ _),zG];omega)) rfl)) ?_;refine nH ⟨?_,Z9 (.al,.int j),Z9 (.al,.int st),?_⟩
   .rw[am,nk,List.range_succ,<-hr,Mx]
   .rw[am,nk,Mx];rfl
  .rintro ρ ⟨_,u8,u9,rfl⟩
   rw[gh];refine aL (pG (v_var rfl rfl) rfl (by rw[af,af];omega)) ?_;have i8:∃v8 v9,(lx dW [u8,u9])=[v8,v9]:=⟨_,_,rfl⟩;obtain⟨v8,v9,YW⟩:=i8;refine nH ⟨Z9 (.al,.int x),Z9 (.al,.str (w x)),dW u8,dW u9,?_⟩;rw[b7,b7];rfl
 .rintro ρ ⟨u6,u7,u8,u9,rfl⟩
  refine bT (vS (λi z=>by cases z) (nB (aC rfl) rfl (Mw (by show 3<64;decide)) (zc _))) rfl
structure RG (rs:List Int):Prop where
 nn:∀r∈rs,0<=r
 cs:rs.length=4\/∃t,rs=[t]/\0<t/\t<=10 ^ 30
theorem Wr (hc:0<=c):∃rs,RG rs/\tT [.int c]=.ok (.fr,.list (rs.map .int)):=by
 suffices h:∃rs,RG rs/\aI [] [] F3 [Z9 (.od,.int c),Z8]=.ok (.rt .fr (.list (rs.map .int))) by obtain⟨ns,h1,h2⟩:=h;exact⟨ns,h1,cM h2⟩
 let Q:Res Out->Prop:=λr=>∃rs,RG rs/\r=.ok (.rt .fr (.list (rs.map .int)))
 show Q _;have wD:=za (ns:=[1,7,1000000000000000,999999999999999999999999999991]) (i:=c%4) (by omega) (by show _<(4:Int);omega);generalize hm:([1,7,1000000000000000,999999999999999999999999999991]:List Int).getD (c%4).toNat 0=m at wD
 have m0:0<m/\m<2 ^ 200:=by
  have h:m∈([1,7,1000000000000000,999999999999999999999999999991]:List Int):=by rw[<-hm];exact getD_mem (by omega) (by show _<(4:Int);omega)
  have hall:∀x∈([1,7,1000000000000000,999999999999999999999999999991]:List Int),0<x/\x<2 ^ 200:=by decide
  exact hall m h
 generalize hl:1+c/4%m=l;have l0:=by have:=ku (c/4) (show m≠0 by omega);omega
 have Ws:cB .Sub (.int 1000000000000000000000000000000) (.int 9)=.ok (.int 999999999999999999999999999991):=rfl;refine aL (cW (d:=.int l) ?_) ?_
 .rw[<-hl];exact aT aH.e (aT (aT (aC rfl) aH.e (mH (by decide) (by decide)) rfl).e (aZ (Ev.of (eS (bB aH (bB aH (bB V7 (bB (aT FZ.e aH.e Ws rfl) bW)))))) (aT (aC rfl) aH.e (eQ (by decide)) rfl).e wD rfl).e (eQ m0.1) rfl).e rfl rfl
 have ht:Tt [] [] (.tv (.cmp .Eq (.bin .Mod (.var 0) (.int 5)) (.int 1))) [Z9 (.od,.int c),Z9 (.al,.int l)] (decide (c%5=1)):=aO (cJ (k:=decide (c%5=1)) (aT (aC rfl) aH.e (eQ (by decide)) rfl).e aH.e (by show Res.ok (aY (.int _) (.int _))=_;rw[mY])).e rfl;by_cases h5:c%5=1
 .refine bT (dV ht (λ_=>cL (vS (λi z=>by cases z) (eS (bB aH (bB (v_var rfl rfl) (bB (aT (aC rfl) aH.e rfl rfl) (bB FZ bW))))))) λz=>absurd h5 (xw z)) ⟨[0,l,l+1,1000000000000000000000000000000],⟨?_,.inl rfl⟩,rfl⟩;intro r hr;simp only[aw,eu,or_false]at hr;omega
 .refine kL ht (x4 h5) ?_;refine bT (vS (λi z=>by cases z) (eS (bB aH (bB (v_var rfl rfl) (bB (aT (aC rfl) aH.e rfl rfl) (bB (aT (aT (aC rfl) aH.e rfl rfl).e (aT (aT (aC rfl) aH.e (mH (by decide) (by decide)) rfl).e aH.e (eQ (by decide)) rfl).e rfl rfl) bW)))))) ⟨[0,l,l+1,l+2+c/20%3],⟨?_,.inl rfl⟩,rfl⟩;intro r hr;simp only[aw,eu,or_false]at hr;omega
theorem My {P:Rho->Prop}(I:Nat->Rho->Prop)(hs:∀k b,I k b->(c b=.ok Z6/\P b)\/∃d a,k=d+1/\c b=.ok Z7/\f b=.ok (.nx a)/\I d a):∀k n b,k<n->I k b->∃a,xU c f n b=.ok (.nx a)/\P a
 |k,0,_,h,_=>by omega
 |k,n+1,b,h,l=>by
  rcases hs k b l with⟨g,i⟩|⟨d,a,rfl,g,i,m⟩
  .exact⟨b,by show(c b>>=_)=_;rw[g];rfl,i⟩
  .obtain⟨j,e,p⟩:=My I hs d n a (by omega) m;refine⟨j,?_,p⟩;show(c b>>=_)=_;rw[g,i];exact e
theorem tI {Q:Res Out->Prop}{P:Rho->Prop}(I:Nat->Rho->Prop)(k:Nat)(hn:k<n)(h0:I k d)(hs:∀k d,I k d->(Tt Κ Φ c d Z6/\P d)\/∃f a,k=f+1/\Tt Κ Φ c d Z7/\aI Κ Φ b d=.ok (.nx a)/\I f a)(g:∀a,P a->Q (aI Κ Φ rest a)):Q (aI Κ Φ (.seq (.wh n c b) rest) d):=by obtain⟨a,e,p⟩:=My I hs k n d hn h0;exact aL e (g a p)
theorem zH (a b:Str):aY (.str a) (.str b)=decide (a=b):=by
 by_cases h:a=b
 .rw[xz h,h];exact beq_self_eq_true b
 .rw[x4 h];exact beq_false_of_ne h
theorem Wt (n:Nat)(ws:List Str):cQ n (ws.map .str)=true:=jJ.mpr λx hx=>by obtain⟨w,_,rfl⟩:=a6.mp hx;cases n<;>rfl
theorem Wu (w:Str)(ws:List Str):cmpD .In (.str w) (.list (ws.map .str))=.ok (decide (w∈ws)):=by
 show(if(shal 40 (.str w)&&cQ 40 (ws.map .str))=Z7 then Res.ok ((ws.map Z2).any λy=>aY y (.str w))else .no)=_;rw[Wt,List.any_map];show Res.ok _=_
 congr 1
 apply ro.mpr;rw[List.any_eq_true,decide_eq_true_iff];refine⟨λ⟨x,b,a⟩=>?_,λh=>⟨w,h,?_⟩⟩
 .have a:aY (.str x) (.str w)=true:=a;exact xv a▸b
 .show aY (.str w) (.str w)=Z7;rw[zH];simp_all
def qs (n:Nat):Str:=⟨(fW n ("q":Str).cps.toList).toArray⟩
theorem Wv {α:Type}(x:α)(n:Nat):(fW n [x]).length=n:=by
 unfold fW
 induction n with
 |zero=>rfl
 |succ n ih=>rw[i9,mx,am,ih];simp;omega
theorem Gz (n:Nat):(qs n).length=n:=by exact Wv _ n
theorem Ww {n:Nat}(h:n<=1000):cB .Mult (.str "q") (.int n)=.ok (.str (qs n)):=by show(if(0<=(n:Int)/\(n:Int)<=aU/\("q":Str).length*(n:Int).toNat<=aU)then Res.ok (Z2 ⟨(fW (n:Int).toNat ("q":Str).cps.toList).toArray⟩)else .no)=_;rw[xp ⟨by omega,by unfold aU;omega,by rw[show("q":Str).length=1 from rfl];unfold aU;omega⟩];rfl
theorem Wx {bad:List Str}(h:∀i,1<=i->i<z->qs i∈bad):z-1<=bad.length:=by
 have:=y8 (a:=((cr (z-1)).map λi=>qs (i+1))) (b:=bad) ?_ ?_
 .rwa [af,gh]at this
 .refine ij.mpr (List.nodup_range.imp λ{a b} kU e=>kU ?_);have:=congrArg Str.length e;rw[Gz,Gz]at this;omega
 .intro x hx;obtain⟨i,hi,rfl⟩:=a6.mp hx;have:=iy.mp hi;exact h _ (by omega) (by omega)
theorem Mz:("abcdefghijklmnopqrstuvwxyz":Str).length=26:=rfl
def KEPT:List Str:=["and","or","not","if","is","some","all","for","against"]
theorem Wy {cs:List Int}(h0:0<cs.length)(h6:cs.length<=6):∃ws:List Str,(ws.Nodup/\ws.length=cs.length/\∀w∈ws,w.length<=30)/\tU [.list (cs.map .int)]=.ok (.fr,.list (ws.map .str)):=by
 suffices h:∃ws:List Str,(ws.Nodup/\ws.length=cs.length/\∀w∈ws,w.length<=30)/\aI [] [eT] F6 [Z9 (.od,.list (cs.map .int)),Z8,Z8,Z8,Z8,Z8,Z8]=.ok (.rt .fr (.list (ws.map .str))) by obtain⟨ns,h1,h2⟩:=h;exact⟨ns,h1,cM h2⟩
 let Q:Res Out->Prop:=λr=>∃ws:List Str,(ws.Nodup/\ws.length=cs.length/\∀w∈ws,w.length<=30)/\r=.ok (.rt .fr (.list (ws.map .str)))
 show Q _;refine aL (eC (eS (bB gA (bB gA (bB gA (bB gA (bB gA (bB gA (bB gA (bB gA (bB gA bW)))))))))) rfl) ?_;refine aL (eC (eS bW) rfl) ?_;refine q_nm (iO rfl rfl rfl) (λ_=>rfl) (λpre ρ=>∃(ws:List Str) (u3 u4 u5 u6:Option GD),ρ=[Z9 (.od,.list (cs.map .int)),Z9 (.fr,.list (KEPT.map .str)),Z9 (.fr,.list (ws.map .str)),u3,u4,u5,u6]/\ws.Nodup/\ws.length=pre.length/\∀w∈ws,w.length<=30) ⟨[],Z8,Z8,Z8,Z8,rfl,gm,rfl,λ_ h=>by cases h⟩ ?_ ?_
 .rintro pre x post ρ hx ⟨ws,u3,u4,u5,u6,rfl,nd,hl,hw⟩
  have hp:pre.length<6:=by have:=congrArg gq hx;rw[am,a8]at this;omega
  obtain⟨ds,⟨d1,d2⟩,hd⟩:=wA (x/12) (n:=1+x%12) (b:=26) (by omega) (by omega) (by decide) (by decide);refine aL (eC (hU (aD (aT (aC rfl) aH.e (mH (by decide) (by decide)) rfl).e (aD (aT aH.e (aT (aC rfl) aH.e (eQ (by decide)) rfl).e rfl rfl).e (aD aH.e aJ))) rfl hd) (kK _)) ?_
  have hs:∃s0:Str,s0.length<=30/\∀{ρ:Rho},ρ[4]?=Z9 (Z9 (.fr,.list (ds.map .int)))->Vv [] [eT] (.mt "join" (.str "") (.cons (.comp 1 [] ["_law_digit"] (.nm 0) (.tv (.var 4)) .nil (.ix (.str "abcdefghijklmnopqrstuvwxyz") (.var 0))) .nil)) ρ (.str s0):=by
   refine⟨qC "" (ds.map λd=>chr "abcdefghijklmnopqrstuvwxyz" d),?_,λ{ρ} h4=>?_⟩
   .rw[VG _ (λs hs=>by obtain⟨d,_,rfl⟩:=a6.mp hs;rfl),af];omega
   .have e4:aG [] [eT] (.var 4) ρ=.ok (.al,.list (ds.map .int)):=by rw[vQ];rw[h4];rfl
    refine pF gA.e (aD (Ev.of (z1e (λ_=>Z7) (λd=>.str (chr "abcdefghijklmnopqrstuvwxyz" d)) (cE e4 rfl) rfl (λd=>[Z9 (.al,.int d)]) (λd _=>rfl) (λd _=>tO) λd iW _=>aZ gA.e (aC rfl) (z7 (d2 d iW).1 (by rw[Mz];exact(d2 d iW).2) (by rw[Mz];decide)) rfl)) aJ) ?_ rfl;rw[im.mpr (λ_ _=>rfl),show(ds.map λd=>Z2 (chr "abcdefghijklmnopqrstuvwxyz" d))=(ds.map λd=>chr "abcdefghijklmnopqrstuvwxyz" d).map .str by rw[gb];rfl];exact VH (λs hs=>by obtain⟨d,_,rfl⟩:=a6.mp hs;rfl) (by rw[af];omega)
  obtain⟨s0,s1,s2⟩:=hs;refine aL (cW (s2 rfl)) ?_;refine aL (cW aH) ?_
  let R:Str->Int->Rho:=λs z=>[Z9 (.od,.list (cs.map .int)),Z9 (.fr,.list (KEPT.map .str)),Z9 (.fr,.list (ws.map .str)),Z9 (.al,.int x),Z9 (.fr,.list (ds.map .int)),Z9 (.al,.str s),Z9 (.al,.int z)]
  have ht:∀s z,Tt [] [eT] (.tv (.cmp .In (.var 5) (.bin .Add (.var 2) (.var 1)))) (R s z) (decide (s∈ws++KEPT)):=λs z=>by
   have e2:aG [] [eT] (.bin .Add (.var 2) (.var 1)) (R s z)=.ok (.fr,.list ((ws++KEPT).map .str)):=by rw[b7];exact Bg (aC rfl) (aC rfl) (add_list (by rw[af,af];show ws.length+9<=1000;omega)) (by rw[<-b7];exact zc _)
   exact aO (cJ (aC rfl) (Ev.of e2) (Wu s _)).e rfl
  refine tI (P:=λρ=>∃s z,ρ=R s z/\s∉ws++KEPT/\s.length<=30) (λk ρ=>∃s z,ρ=R s (z:Nat)/\k+z=40/\1<=z/\s.length<=30/\(2<=z->s=qs (z-1))/\∀i,1<=i->i<z-1->qs i∈ws++KEPT) 39 (by decide) ⟨s0,1,rfl,rfl,by decide,s1,λh=>by omega,λi h1 h2=>by omega⟩ ?_ ?_
  .rintro k ρ ⟨s,z,rfl,YX,z1,sl,sq,hq⟩
   by_cases wF:s∈ws++KEPT
   .have hall:∀i,1<=i->i<z->qs i∈ws++KEPT:=fun i h1 h2=>by
     by_cases hi:i=z-1
     .rw[hi,<-sq (by omega)];exact wF
     .exact hq i h1 (by omega)
    have hz:=Wx hall;rw[am,show KEPT.length=9 from rfl]at hz;refine .inr ⟨k-1,R (qs z) ((z+1:Nat):Int),by omega,?_,?_,qs z,z+1,rfl,by omega,by omega,by rw[Gz];omega,λ_=>rfl,hall⟩
    .have :=ht s z;rw[xz wF]at this;exact this
    .exact bJ (cW (aT gA.e (aC rfl) (Ww (by omega)) rfl)) (bJ (cW (d:=.int ((z+1:Nat):Int)) (aT (aC rfl) aH.e rfl rfl)) cG)
   .refine .inl ⟨?_,s,z,rfl,wF,sl⟩;have:=ht s z;rw[x4 wF]at this;exact this
  .rintro ρ ⟨s,z,rfl,wF,Wz⟩
   refine aL (pG (v_var rfl rfl) rfl (by rw[af];omega)) ?_;refine nH ⟨ws++[s],Z9 (.al,.int x),Z9 (.fr,.list (ds.map .int)),Z9 (.al,.str s),Z9 (.al,.int z),?_,?_,?_,?_⟩
   .rw[b7];rfl
   .refine il.mpr ⟨nd,bw.mpr ⟨(λz=>by cases z),gm⟩,λa ha b hb e=>?_⟩;rw[ay.mp hb]at e;exact wF (cx _ (e▸ha))
   .rw[am,am,hl];rfl
   .intro w WA;rcases cf.mp WA with h|h
    .exact hw w h
    .rw[ay.mp h];exact Wz
 .rintro ρ ⟨ws,u3,u4,u5,u6,rfl,nd,hl,hw⟩
  exact bT (z3o rfl) ⟨ws,⟨nd,hl,hw⟩,rfl⟩
theorem MA (hv:∀i,t≠.var i)(h:Ev Κ Φ t ρ d):∃g,aI Κ Φ (.ret t) ρ=.ok (.rt g d)/\g≠.od:=by obtain⟨g,h⟩:=h;refine⟨fO g,by rw[FV hv,h];rfl,?_⟩;cases g<;>decide
theorem WB (a:List Int):aggD "sum" Z7 (a.map .int)=.ok (.int a.sum):=by show Res.eE ((fP (a.map .int)).map Z0)=_;rw[Mj];rfl
theorem tZ {α:Type}(xs:List α)(i j:Option Int):(cut xs i j).length<=xs.length:=by unfold cut;rw[f8,jd];omega
theorem uA (h:0<=v):bA n d (Z9 v)=min v.toNat n:=by show(if v<0 then(v+(n:Int)).toNat else min v.toNat n)=_;rw[xq (Int.not_lt.mpr h)]
theorem WC {α:Type}(xs:List α)(h1:i<=j)(h2:j<=xs.length):(cut xs (Z9 (i:Int)) (Z9 (j:Int))).length=j-i:=by unfold cut;rw[f8,jd,uA (km _),uA (km _),ik,ik,l7 h2,l7 (bo h1 h2)];exact l7 (tu h2 _)
structure BG (xs:List Int)(m:Nat)(w:Int)(ws:List Str)(rs cs re:List Int):Prop where
 w0:0<=w
 w1:w<2147483647
 gw:GW ws
 rg:RG rs
 cl:cs.length<=xs.length
 cm:cs.length<=m
 rl:re.length<=xs.length
 w3:ws.length<=3
def pO (w:Int)(ws:List Str)(rs cs re:List Int):D:=.tuple [.int w,.list (ws.map .str),.list (rs.map .int),.list (cs.map .int),.list (re.map .int)]
theorem WD:cB .Pow (.int 10) (.int 21)=.ok (.int 1000000000000000000000):=rfl
theorem GA {α:Type}(xs:List α)(m:Nat):(cut xs Z8 (Z9 (m:Int))).length<=m:=by unfold cut;rw[f8,uA (km _)];exact bo (ox _ _) (bo (Nat.sub_le _ _) (ox _ _))
theorem WE {α:Type}(xs:List α)(k m:Nat):(cut xs (Z9 (k:Int)) (Z9 ((k+m:Nat):Int))).length<=m:=by
 unfold cut;rw[f8,uA (km _),uA (km _),ik,ik];refine bo (ox _ _) ?_;by_cases h:k<=xs.length
 .rw[l7 h];exact bo (tu (ox _ _) _) (vp (Nat.add_sub_cancel_left ..))
 .rw[Nat.min_eq_right (Nat.le_of_not_le h)];exact bo (vp (Nat.sub_eq_zero_of_le (Nat.min_le_right _ _))) (dr _)
theorem WG {xs:List Int}(hl:xs.length<=63){m o:Nat}(hm:m<=60)(o0:0<o)(o1:o<=3):∃w ws rs cs re,BG xs m w ws rs cs re/\∃g,vU [.list (xs.map .int),.int m,.int o]=.ok (g,pO w ws rs cs re)/\g≠.od:=by
 suffices h:∃w ws rs cs re,BG xs m w ws rs cs re/\∃g,aI [] [tU,tS,tT,iD] Bl [Z9 (.od,.list (xs.map .int)),Z9 (.od,.int m),Z9 (.od,.int o),Z8,Z8,Z8,Z8,Z8]=.ok (.rt g (pO w ws rs cs re))/\g≠.od by obtain⟨w,ws,rs,cs,re,h1,g,h2,h3⟩:=h;exact⟨w,ws,rs,cs,re,h1,g,cM h2,h3⟩
 let Q:Res Out->Prop:=λr=>∃w ws rs cs re,BG xs m w ws rs cs re/\∃g,r=.ok (.rt g (pO w ws rs cs re))/\g≠.od
 show Q _;unfold Bl;obtain⟨w,⟨w0,w1⟩,hw⟩:=pN (cut xs Z8 (Z9 63)).sum (k:=5) (by decide) (by decide);obtain⟨v,⟨v0,v1⟩,hv⟩:=pN (cut xs Z8 (Z9 63)).sum (k:=6) (by decide) (by decide);have es:∀{Φ:List Fn} {ρ:Rho},ρ[0]?=Z9 (Z9 (.od,.list (xs.map .int)))->Vv [] Φ (.eF "sum" (.tv (.sl (.var 0) .nil (.tv (.int 63))))) ρ (.int (cut xs Z8 (Z9 63)).sum):=λh=>vR (fU (aC h) mT (jE aH.e) (pM _ _ _)) rfl (WB _) rfl;refine aL (cW (d:=.int w) (bF (aD (es rfl).e (aD aH.e aJ)) rfl hw rfl)) ?_;have wD:=za (ns:=xs++[0]) (i:=0) (by decide) (by rw[am];show(0:Int)<((xs.length+1:Nat):Int);omega);generalize (xs++[0]).getD (0:Int).toNat 0=h at wD;rw[b7]at wD;refine aL (cW (d:=.int h) (aZ (Ev.of (Bg (aC rfl) (Ev.of (eS (bB aH bW))) (add_list (by rw[af];show xs.length+1<=1000;omega)) (by rw[show[Z0 0]=[(0:Int)].map .int from rfl,<-b7];exact kK _))) aH.e wD rfl)) ?_;have ht:Tt [] [tU,tS,tT,iD] (.tv (.cmp .Eq (.bin .Mod (.var 4) (.int 2)) (.int 0))) [Z9 (.od,.list (xs.map .int)),Z9 (.od,.int m),Z9 (.od,.int o),Z9 (.al,.int w),Z9 (.al,.int h),Z8,Z8,Z8] (decide (h%2=0)):=aO (cJ (k:=decide (h%2=0)) (aT (aC rfl) aH.e (eQ (by decide)) rfl).e aH.e (by show Res.ok (aY (.int _) (.int _))=_;rw[mY])).e rfl;by_cases h2:h%2=0
 .obtain⟨rs,rg,hr⟩:=Wr (c:=v*1000000000000000000000+w) (by have :=Int.mul_nonneg v0 (show(0:Int)<=1000000000000000000000 by decide);omega);obtain⟨ws,⟨gw,g3⟩,hn⟩:=Wo w0;obtain⟨g,hg,g0⟩:=MA (Κ:=[]) (Φ:=[tU,tS,tT,iD]) (ρ:=[Z9 (.od,.list (xs.map .int)),Z9 (.od,.int m),Z9 (.od,.int o),Z9 (.al,.int w),Z9 (.al,.int h),Z9 (.fr,.list (rs.map .int)),Z8,Z8]) (t:=.tup (.cons (.var 3) (.cons (.call 1 "_law_names" (.cons (.var 3) (.cons (.int 3) .nil))) (.cons (.var 5) (.cons (.sl (.var 0) .nil (.tv (.var 1))) (.cons (.var 0) .nil)))))) (d:=pO w ws rs (cut xs Z8 (Z9 (m:Int))) xs) (λi z=>by cases z) (LP (aD (aC rfl) (aD (Ev.of (hU (aD (aC rfl) (aD aH.e aJ)) rfl hn)) (aD (aC rfl) (aD (fU (aC rfl) mT (jE (aC rfl)) (pM _ _ _)) (aD (aC rfl) aJ))))));refine bT (g:=g) (dV ht (λ_=>bJ (eC (hU (aD (aT (aT (bF (aD (es rfl).e (aD aH.e aJ)) rfl hv rfl).e (aT aH.e aH.e WD rfl).e (mX ⟨by omega,by omega⟩) rfl).e (aC rfl) rfl rfl).e aJ) rfl hr) (kK _)) (cL hg)) λz=>absurd h2 (xw z)) ⟨w,ws,rs,_,xs,⟨w0,w1,gw,rg,tZ _ _ _,GA _ _,ar _,by omega⟩,g,rfl,g0⟩
 .refine kL ht (x4 h2) ?_;generalize hq:h/2%(o:Int)=r;have r0:0<=r/\r<o:=by rw[<-hq];exact⟨ku _ (by omega),kj _ (by omega)⟩
  obtain⟨rn,rfl⟩:∃rn:Nat,r=rn:=⟨r.toNat,by omega⟩;have cl:(cut (xs++[0,0,0,0,0,0,0,0,0]) (Z9 1) (Z9 (2+(rn:Int)))).length=2+rn-1:=WC _ (i:=1) (j:=2+rn) (by omega) (by rw[am];show 2+rn<=xs.length+9;omega);obtain⟨ws,⟨nd,wl,ww⟩,hf⟩:=Wy (cs:=cut (xs++[0,0,0,0,0,0,0,0,0]) (Z9 1) (Z9 (2+(rn:Int)))) (by omega) (by omega);have e9:lP [(.fr,.int 0)] (.int 9)=.ok (.fr,.list (([0,0,0,0,0,0,0,0,0]:List Int).map .int)):=rfl;have K2:=(wC ws).length_eq;refine aL (eC (xs:=(eI ws).map .str) (nB (x:=.list (ws.map .str)) (w:=(Z7,ws.map .str)) (Ev.of (hU (aD (fU (Ev.of (Bg (aC rfl) (Ev.of (VZ (bB aH bW) aH.e e9)) (add_list (by rw[af];show xs.length+9<=1000;omega)) (by rw[<-b7];exact kK _))) (jE aH.e) (jE (aT aH.e (aT (aT (aC rfl) aH.e (mH (by decide) (by decide)) rfl).e (aC rfl) (eQ (by omega)) rfl).e rfl rfl).e) (by rw[<-b7,pM,hq])) aJ) rfl hf)) rfl (Mw (by omega)) (zc _)) (zc _)) ?_;have MB:=za (ns:=[1,2,4,30,1000000000000000000000000000000]) (i:=h/(2*o)%5) (by omega) (by show _<(5:Int);omega);generalize WH:([1,2,4,30,1000000000000000000000000000000]:List Int).getD (h/(2*o)%5).toNat 0=t at MB
  have t0:0<t/\t<=10 ^ 30:=by
   have hh:t∈([1,2,4,30,1000000000000000000000000000000]:List Int):=by rw[<-WH];exact getD_mem (by omega) (by show _<(5:Int);omega)
   have hall:∀x∈([1,2,4,30,1000000000000000000000000000000]:List Int),0<x/\x<=10 ^ 30:=by decide
   exact hall t hh
  refine aL (cW (d:=.int t) (aZ (Ev.of (eS (bB aH (bB aH (bB aH (bB aH (bB FZ bW))))))) (aT (aT (aC rfl) (aT aH.e (aC rfl) (mX (by decide)) rfl).e (mH (by omega) (by omega)) rfl).e aH.e (eQ (by decide)) rfl).e MB rfl)) ?_;obtain⟨g,hg,g0⟩:=MA (Κ:=[]) (Φ:=[tU,tS,tT,iD]) (ρ:=[Z9 (.od,.list (xs.map .int)),Z9 (.od,.int m),Z9 (.od,.int o),Z9 (.al,.int w),Z9 (.al,.int h),Z8,Z9 (.fr,.list ((eI ws).map .str)),Z9 (.al,.int t)]) (t:=.tup (.cons (.var 3) (.cons (.var 6) (.cons (.lst (.cons (.var 7) .nil)) (.cons (.sl (.var 0) (.tv (.int 8)) (.tv (.bin .Add (.int 8) (.var 1)))) (.cons (.sl (.var 0) (.tv (.bin .Add (.int 8) (.var 1))) (.tv (.int 63))) .nil)))))) (d:=pO w (eI ws) [t] (cut xs (Z9 8) (Z9 ((8+m:Nat):Int))) (cut xs (Z9 ((8+m:Nat):Int)) (Z9 63))) (λi z=>by cases z) (LP (aD (aC rfl) (aD (aC rfl) (aD (Ev.of (eS (bB (v_var rfl rfl) bW))) (aD (fU (aC rfl) (jE aH.e) (jE (aT aH.e (aC rfl) rfl rfl).e) (pM _ _ _)) (aD (fU (aC rfl) (jE (aT aH.e (aC rfl) rfl rfl).e) (jE aH.e) (pM _ _ _)) aJ))))));refine bT hg ⟨w,eI ws,[t],_,_,⟨w0,w1,⟨Gy nd,by omega,by omega,λx hx=>ww x ((wC _).mem_iff.mp hx)⟩,⟨?_,.inr ⟨t,rfl,t0⟩⟩,tZ _ _ _,WE xs 8 m,tZ _ _ _,by omega⟩,g,rfl,g0⟩;intro r hr;rw[ay.mp hr];omega
structure PW (ws:List Str)(l:P):Prop where
 pk:PK l
 ks:∀k∈ks l,k∈ws
theorem PW.len (h:PW ws l):l.length<=ws.length:=by
 have:=y8 h.pk.nd h.ks;unfold Mk.ks at this
 rwa [af]at this
theorem uB (h:Sw ws)(ds:List Int):PW ws (zp ws ds):=⟨Mq h,λk hk=>by obtain⟨p,hp,rfl⟩:=a6.mp hk;exact(jt (ce.mp hp).1).1⟩
theorem qW {rs:List Int}(h:ρ[i]?=Z9 (Z9 (g,.list (rs.map .int)))):Tt [] Φ (.tv (.cmp .Eq (.bi "len" (.cons (.var i) .nil)) (.int 1))) ρ (decide (rs.length=1)):=by
 refine aO (cJ (bX (aD (aC h) aJ) (Gs rs) rfl).e aH.e ?_).e rfl;show Res.ok (aY (.int _) (.int _))=_
 congr 1
 apply decide_eq_decide.mpr;omega
theorem len_strs (ws:List Str):gO "len" [.list (ws.map .str)]=.ok (.int (ws.length:Int)):=by show Res.ok (Z0 ((ws.map Z2).length:Int))=_;rw[af]
theorem BA (h:ρ[i]?=Z9 (Z9 (g,.list ([t].map .int)))):Vv [] Φ (.bin .Add (.ix (.var i) (.int 0)) (.int 1)) ρ (.int (t+1)):=aT (aZ (d:=.int t) (aC h) aH.e rfl rfl).e aH.e rfl rfl
theorem RG.pP {rs:List Int}(h:rs.length=4):decide (rs.length=1)=false:=x4 (by omega)
theorem MC (c:Int)(gw:GW ws)(rg:RG rs):∃l,PW ws l/\Bm [.int c,.list (ws.map .str),.list (rs.map .int)]=.ok (.fr,pk l):=by
 suffices h:∃l,PW ws l/\aI [] [nD,eT] F7 [Z9 (.od,.int c),Z9 (.od,.list (ws.map .str)),Z9 (.od,.list (rs.map .int))]=.ok (.rt .fr (pk l)) by obtain⟨ns,h1,h2⟩:=h;exact⟨ns,h1,cM h2⟩
 have w6:=gw.len;rcases rg.cs with h4|⟨t,rfl,t0,t1⟩
 .obtain⟨ds,⟨d1,d2⟩,hd⟩:=wA c (n:=(ws.length:Int)) (b:=4) (by omega) (by omega) (by decide) (by decide);refine⟨zp ws (ds.map λd=>rs.getD d.toNat 0),uB gw.sw _,?_⟩;refine Bj (qW rfl) (RG.pP h4) ?_;have hc:=z1e (Κ:=[]) (Φ:=[nD,eT]) (ρ:=[Z9 (.od,.int c),Z9 (.od,.list (ws.map .str)),Z9 (.od,.list (rs.map .int))]) (nt:=1) (js:=[2]) (N':=["_law_digit","_law_rungs_here"]) (tg:=.nm 0) (elt:=.ix (.var 1) (.var 0)) (λ_=>Z7) (λd=>.int (rs.getD d.toNat 0)) (cE (hU (n:=1) (f:="_law_digits") (aD (aC (i:=0) rfl) (aD (bX (aD (aC (i:=1) rfl) aJ) (len_strs ws) rfl).e (aD (aH).e aJ))) rfl hd) rfl) rfl (λd=>[Z9 (.al,.int d),Z9 (.od,.list (rs.map .int))]) (λd _=>rfl) (λd _=>tO) λd iW _=>aZ (aC rfl) (aC rfl) (za (d2 d iW).1 (by have:=(d2 d iW).2;omega)) rfl;rw[im.mpr (λ_ _=>rfl),show(ds.map λd=>Z0 (rs.getD d.toNat 0))=(ds.map λd=>rs.getD d.toNat 0).map .int by rw[gb];rfl]at hc;exact cL (dH (bF (aD (aC rfl) (aD (Ev.of hc) aJ)) rfl (tX (by omega) (by rw[af];omega)) (bI _)))
 .obtain⟨ds,⟨d1,d2⟩,hd⟩:=wA c (n:=(ws.length:Int)) (b:=t+1) (by omega) (by omega) (by omega) (by omega);refine⟨zp ws ds,uB gw.sw _,?_⟩;exact FY (qW rfl) rfl (cL (dH (bF (aD (aC rfl) (aD (Ev.of (hU (aD (aC rfl) (aD (bX (aD (aC rfl) aJ) (len_strs ws) rfl).e (aD (BA rfl).e aJ))) rfl hd)) aJ)) rfl (tX (by omega) (by omega)) (bI _))))
theorem MD (c:Int)(gw:GW ws)(rg:RG rs):∃f a,(PW ws f/\PW ws a)/\qU [.int c,.list (ws.map .str),.list (rs.map .int)]=.ok (.fr,dJ f a):=by
 suffices h:∃f a,(PW ws f/\PW ws a)/\aI [] [Bm,iD,nD,eT] F8 [Z9 (.od,.int c),Z9 (.od,.list (ws.map .str)),Z9 (.od,.list (rs.map .int)),Z8]=.ok (.rt .fr (dJ f a)) by obtain⟨f,a,h1,h2⟩:=h;exact⟨f,a,h1,cM h2⟩
 have w6:=gw.len;rcases rg.cs with h4|⟨t,rfl,t0,t1⟩
 .obtain⟨m1,_,e1⟩:=pN c (k:=1) (by decide) (by decide);obtain⟨m2,_,e2⟩:=pN c (k:=2) (by decide) (by decide);obtain⟨f,pf,ef⟩:=MC m1 gw rg;obtain⟨a,pa,ea⟩:=MC m2 gw rg;refine⟨f,a,⟨pf,pa⟩,?_⟩;refine Bj (qW rfl) (RG.pP h4) ?_;exact cL (dH (gB (bB (bF (aD (bF (aD (aC rfl) (aD aH.e aJ)) rfl e1 rfl).e (aD (aC rfl) (aD (aC rfl) aJ))) rfl ef (bI _)) (bB (bF (aD (bF (aD (aC rfl) (aD aH.e aJ)) rfl e2 rfl).e (aD (aC rfl) (aD (aC rfl) aJ))) rfl ea (bI _)) bW))))
 .obtain⟨ds,⟨d1,d2⟩,hd⟩:=wA c (n:=2*(ws.length:Int)) (b:=t+1) (by omega) (by omega) (by omega) (by omega);refine⟨zp ws ds,zp ws (cut ds (Z9 (ws.length:Int)) Z8),⟨uB gw.sw _,uB gw.sw _⟩,?_⟩;have eO:=tZ ds (Z9 (ws.length:Int)) Z8;exact FY (qW rfl) rfl (bJ (eC (hU (aD (aC rfl) (aD (aT aH.e (bX (aD (aC rfl) aJ) (len_strs ws) rfl).e (mX (by decide)) rfl).e (aD (BA rfl).e aJ))) rfl hd) (kK _)) (cL (dH (gB (bB (bF (aD (aC rfl) (aD (aC rfl) aJ)) rfl (tX (by omega) (by omega)) (bI _)) (bB (bF (aD (aC rfl) (aD (fU (aC rfl) (jE (bX (aD (aC rfl) aJ) (len_strs ws) rfl).e) mT (pM _ _ _)) aJ)) rfl (tX (by omega) (by omega)) (bI _)) bW))))))
def iQ (mi:Int->Int)(p:(Str×Int)×Int):Option (Str×Int):=if 0<min p.1.2 (mi p.2)then Z9 (p.1.1,min p.1.2 (mi p.2))else Z8
theorem GB (mi:Int->Int):∀(a:P) (ds:List Int),(ks ((a.zip ds).filterMap (iQ mi))).Sublist (ks a)
 | [],_=>by simp[ks]
 |_::_,[]=>by simp[ks]
 |p::a,d::ds=>by
  rw[List.zip_cons_cons,c8];have ih:=GB mi a ds;unfold iQ at ih ⊢;split
  .exact ih.cons _
  .rename_i x hx;split at hx
   .cases hx;exact ih.cons₂ _
   .cases hx
theorem BB:Sd l↔(ks l).Pairwise sl:=by unfold Sd ks;rw[ij]
theorem WI (h:PW ws a)(mi:Int->Int)(ds:List Int):PW ws ((a.zip ds).filterMap (iQ mi)):=by
 refine⟨⟨BB.mpr ((BB.mp h.pk.sd).sublist (GB mi a ds)),λp hp=>?_⟩,λk hk=>h.ks k ((GB mi a ds).subset hk)⟩;obtain⟨q,_,hq⟩:=fg.mp hp;unfold iQ at hq;split at hq
 .cases hq;assumption
 .cases hq
theorem WJ (h:PW ws a)(mi:Int->Int)(ds:List Int):wi ((a.zip ds).filterMap (iQ mi)) a=true:=by
 unfold wi;rw[jf,gc];intro p hp z;obtain⟨x,hx,e⟩:=fg.mp hp;have hm:=(jt hx).1;unfold iQ at e;split at e
 .cases e;have:=xv z;rw[h.pk.aK hm]at this;exact Int.not_le.mpr this (Int.min_le_left _ _)
 .cases e
theorem WK (ha:PW ws a)(gw:GW ws)(c:Int)(rg:RG rs):∃r,(PW ws r/\wi r a=Z7)/\vV [pk a,.int c,.list (rs.map .int)]=.ok (.fr,pk r):=by
 suffices h:∃r,(PW ws r/\wi r a=Z7)/\aI [] [eT] F9 [Z9 (.od,pk a),Z9 (.od,.int c),Z9 (.od,.list (rs.map .int)),Z8,Z8,Z8,Z8,Z8]=.ok (.rt .fr (pk r)) by obtain⟨ns,h1,h2⟩:=h;exact⟨ns,h1,cM h2⟩
 let Q:Res Out->Prop:=λz=>∃r,(PW ws r/\wi r a=Z7)/\z=.ok (.rt .fr (pk r))
 show Q _;have w6:=gw.len;have al:=ha.len;refine aL (cW aH) ?_
 obtain⟨b,b0,b1,hb⟩:∃b:Int,0<b/\b<2 ^ 200/\(rs.length=4/\b=4\/∃t,rs=[t]/\b=t+1):=by
  rcases rg.cs with h4|⟨t,h,t0,t1⟩
  .exact⟨4,by decide,by decide,.inl ⟨h4,rfl⟩⟩
  .exact⟨t+1,by omega,by omega,.inr ⟨t,h,rfl⟩⟩
 refine aL (ρ':=[Z9 (.od,pk a),Z9 (.od,.int c),Z9 (.od,.list (rs.map .int)),Z9 (.al,.int b),Z8,Z8,Z8,Z8]) ?_ ?_
 .rcases hb with⟨h4,rfl⟩|⟨t,rfl,rfl⟩
  .exact dV (qW rfl) (λz=>by rw[RG.pP h4]at z;cases z) λ_=>cG
  .exact dV (qW rfl) (λ_=>bJ (cW (BA rfl)) cG) λz=>by cases z
 refine aL (eC (eS bW) rfl) ?_;have GC:gO "len" [pk a]=.ok (.int (a.length:Int)):=by show Res.ok (Z0 ((a.map pr).length:Int))=_;rw[af]
 obtain⟨ds,⟨d1,d2⟩,hd⟩:=wA c (n:=(a.length:Int)) (by omega) (by omega) b0 b1;have hz:=D8 (Κ:=[]) (Φ:=[eT]) (ρ:=[Z9 (.od,pk a),Z9 (.od,.int c),Z9 (.od,.list (rs.map .int)),Z9 (.al,.int b),Z9 (.fr,.list []),Z8,Z8,Z8]) (v_var (i:=0) rfl (bI a)).1 (hU (n:=0) (f:="_law_digits") (aD (aC (i:=1) rfl) (aD (bX (aD (aC (i:=0) rfl) aJ) GC rfl).e (aD (aC (i:=3) rfl) aJ))) rfl hd) rfl rfl (V6 (Ba a) (by rw[af];omega)) (zk (kK ds) (by rw[af];omega));rw[Bh]at hz
 let mi:Int->Int:=λd=>if rs.length=1 then d else rs.getD d.toNat 0
 refine zkr hz (λpre ρ=>∃u5 u6 u7,ρ=[Z9 (.od,pk a),Z9 (.od,.int c),Z9 (.od,.list (rs.map .int)),Z9 (.al,.int b),Z9 (.fr,.list ((pre.filterMap (iQ mi)).map pr)),u5,u6,u7]) ⟨Z8,Z8,Z8,rfl⟩ ?_ ?_
 .rintro pre x post ρ hx ⟨u5,u6,u7,rfl⟩
  have hp:pre.length<6:=by have:=congrArg gq hx;rw[rq,am,a8]at this;omega
  have ME:=(jt (by rw[hx];exact aq _ ah)).2;have GF:=List.length_filterMap_le (iQ mi) pre
  have qX:∀{u7:Option GD},aI [] [eT] (.bP (.tv (.cmp .Gt (.bi "len" (.cons (.var 2) .nil)) (.int 1))) (.seq (.asg (.nm 7) (.ix (.var 2) (.var 6))) .nil) .nil) [Z9 (.od,pk a),Z9 (.od,.int c),Z9 (.od,.list (rs.map .int)),Z9 (.al,.int b),Z9 (.fr,.list ((pre.filterMap (iQ mi)).map pr)),Z9 (.al,pr x.1),Z9 (.al,.int x.2),Z9 (.al,.int x.2)]=.ok (.nx [Z9 (.od,pk a),Z9 (.od,.int c),Z9 (.od,.list (rs.map .int)),Z9 (.al,.int b),Z9 (.fr,.list ((pre.filterMap (iQ mi)).map pr)),Z9 (.al,pr x.1),Z9 (.al,.int x.2),Z9 (.al,.int (mi x.2))]):=by
   intro _;have ht:Tt [] [eT] (.tv (.cmp .Gt (.bi "len" (.cons (.var 2) .nil)) (.int 1))) [Z9 (.od,pk a),Z9 (.od,.int c),Z9 (.od,.list (rs.map .int)),Z9 (.al,.int b),Z9 (.fr,.list ((pre.filterMap (iQ mi)).map pr)),Z9 (.al,pr x.1),Z9 (.al,.int x.2),Z9 (.al,.int x.2)] (decide ((1:Int)<rs.length)):=aO (cJ (bX (aD (aC rfl) aJ) (Gs rs) rfl).e aH.e rfl).e rfl;rcases hb with⟨h4,rfl⟩|⟨t,rfl,rfl⟩
   .have hm:mi x.2=rs.getD x.2.toNat 0:=xq (by omega);rw[hm];refine dV ht (λ_=>bJ (cW (aZ (aC rfl) (aC rfl) (za (d2 _ ME).1 (by have:=(d2 _ ME).2;omega)) rfl)) cG) λz=>?_;have:=xw z;omega
   .have hm:mi x.2=x.2:=xp rfl;exact dV ht (λz=>by have:=xv z;simp at this) λ_=>cG
  have uC:∀{ρ:Rho},ρ[5]?=Z9 (Z9 (.al,pr x.1))->ρ[7]?=Z9 (Z9 (.al,.int (mi x.2)))->Vv [] [eT] (.bi "min" (.cons (.ix (.var 5) (.int 1)) (.cons (.var 7) .nil))) ρ (.int (min x.1.2 (mi x.2))):=λh5 h7=>bX (aD (aZ (aC h5) aH.e rfl rfl).e (aD (aC h7) aJ)) (VB _ _) rfl;by_cases pQ:0<min x.1.2 (mi x.2)
  .refine⟨_,_,FW (qT x.1) rfl,bJ (cW (v_var rfl rfl)) (bJ (qX (u7:=Z8)) (bJ (dV (aO (cJ (k:=decide (0<min x.1.2 (mi x.2))) (uC rfl rfl).e aH.e rfl).e rfl) (λ_=>bJ (pG (xs:=(pre.filterMap (iQ mi)).map pr) (x:=pr (x.1.1,min x.1.2 (mi x.2))) (gB (bB (aZ (aC rfl) aH.e rfl rfl) (bB (uC rfl rfl) bW))) rfl (by rw[af];omega)) cG) λz=>absurd pQ (xw z)) cG)),Z9 (.al,pr x.1),Z9 (.al,.int x.2),Z9 (.al,.int (mi x.2)),?_⟩;have e:iQ mi x=Z9 (x.1.1,min x.1.2 (mi x.2)):=xp pQ;rw[sg,c8,e,b7];rfl
  .refine⟨_,_,FW (qT x.1) rfl,bJ (cW (v_var rfl rfl)) (bJ (qX (u7:=Z8)) (bJ (dV (aO (cJ (k:=decide (0<min x.1.2 (mi x.2))) (uC rfl rfl).e aH.e rfl).e rfl) (λz=>absurd (xv z) pQ) λ_=>cG) cG)),Z9 (.al,pr x.1),Z9 (.al,.int x.2),Z9 (.al,.int (mi x.2)),?_⟩;have e:iQ mi x=none:=xq pQ;rw[sg,c8,e,List.filterMap_nil,dg]
 .rintro ρ ⟨u5,u6,u7,rfl⟩
  exact bT (dH (vR (w:=(Z7,((a.zip ds).filterMap (iQ mi)).map pr)) (aC rfl) rfl rfl (bI _))) ⟨_,⟨WI ha mi ds,WJ ha mi ds⟩,rfl⟩
theorem WL (ha:PK a):wi a a=true:=(Ml ha ha).mpr λ_=>ki _
structure RW (ws:List Str)(p:Bool×P×P×P):Prop where
 f:PW ws p.2.1
 a:PW ws p.2.2.1
 r:PW ws p.2.2.2
 w:wi p.2.2.2 (own p.1 p.2.1 p.2.2.1)=Z7
def mr (p:Bool×P×P×P):D:=rl p.1 p.2.1 p.2.2.1 p.2.2.2
theorem mI (p:Bool×P×P×P):imm (mr p)=true:=Wd _ _ _ _
theorem GG (h:Ev [] Φ t ρ (.int (w%2))):Vv [] Φ (.ix (.lst (.cons (.str "for") (.cons (.str "against") .nil))) t) ρ (.str (sd (decide (w%2=0)))):=by
 refine aZ (Ev.of (eS (bB gA (bB gA bW)))) h ?_ rfl;rcases(show w%2=0\/w%2=1 by omega)with e|e
 .rw[e];rfl
 .rw[e];rfl
theorem MF (h:Sw ws)(ow th:List Int):wi (zp ws ((ow.zip th).map λp=>min p.1 p.2)) (zp ws ow)=true:=by
 unfold wi;rw[jf,gc];intro p hp z;obtain⟨h1,h2⟩:=ce.mp hp;have h0:=xv h2;obtain⟨i,hi⟩:=tw h1;obtain⟨a1,a2⟩:=jp.mp hi;rw[bt,dj]at a2;obtain⟨x,hx,ex⟩:=a2;obtain⟨b1,b2⟩:=jp.mp hx;have hle:p.2<=x.1:=by rw[<-ex];exact Int.min_le_left _ _
 have hm:(p.1,x.1)∈zp ws ow:=ce.mpr ⟨bx (jp.mpr ⟨a1,b1⟩),xz (Int.lt_of_lt_of_le h0 hle)⟩;have:=xv z;rw[(Mq h).aK hm]at this;exact Int.not_le.mpr this hle
theorem WM {α:Type}(xs:List α):cut xs (Z9 0) Z8=xs:=by exact jc (ar _)
theorem WN (c:Int)(gw:GW ws)(b0:0<b)(b1:b<2 ^ 200):∃p,RW ws p/\vW [.int c,.list (ws.map .str),.int b]=.ok (.fr,mr p):=by
 have w6:=gw.len;obtain⟨ds,⟨d1,d2⟩,hd⟩:=wA (c/2) (n:=3*(ws.length:Int)) (by omega) (by omega) b0 b1
 let ow:=cut ds (Z9 (c%2*(ws.length:Int))) Z8
 let th:=cut ds (Z9 (2*(ws.length:Int))) Z8
 have l1:ow.length<=ds.length:=tZ _ _ _;have l2:th.length<=ds.length:=tZ _ _ _;have l3:=tZ ds (Z9 (ws.length:Int)) Z8;refine⟨(decide (c%2=0),zp ws ds,zp ws (cut ds (Z9 (ws.length:Int)) Z8),zp ws ((ow.zip th).map λp=>min p.1 p.2)),⟨uB gw.sw _,uB gw.sw _,uB gw.sw _,?_⟩,cM ?_⟩
 .show wi (zp ws ((ow.zip th).map λp=>min p.1 p.2)) (own (decide (c%2=0)) (zp ws ds) (zp ws (cut ds (Z9 (ws.length:Int)) Z8)))=Z7;rcases(show c%2=0\/c%2=1 by omega)with e|e
  .rw[xz e];have eo:ow=ds:=by show cut ds (Z9 (c%2*(ws.length:Int))) Z8=ds;rw[e,Int.zero_mul];exact WM ds
   rw[eo];exact MF gw.sw _ _
  .rw[x4 (by omega)];have eo:ow=cut ds (Z9 (ws.length:Int)) none:=by show cut ds (Z9 (c%2*(ws.length:Int))) Z8=_;rw[e,Int.one_mul]
   rw[eo];exact MF gw.sw _ _
 refine bJ (cW (bX (aD (aC rfl) aJ) (len_strs ws) rfl)) ?_;refine bJ (eC (hU (aD (aT (aC rfl) aH.e (mH (by decide) (by decide)) rfl).e (aD (aT aH.e (aC rfl) (mX (by decide)) rfl).e (aD (aC rfl) aJ))) rfl hd) (kK _)) ?_;have sL:∀{Φ:List Fn} {ρ:Rho} {i:Nat} {g:G} {xs:List Int} {t:C} {k:Int},ρ[i]?=Z9 (Z9 (g,.list (xs.map .int)))->Ev [] Φ t ρ (.int k)->Ev [] Φ (.sl (.var i) (.tv t) .nil) ρ (.list ((cut xs (Z9 k) Z8).map .int)):=λh k=>fU (aC h) (jE k) mT (pM _ _ _);obtain⟨g5,e5⟩:=sL (ρ:=[Z9 (.od,.int c),Z9 (.od,.list (ws.map .str)),Z9 (.od,.int b),Z9 (.al,.int ws.length),Z9 (.fr,.list (ds.map .int)),Z8,Z8,Z8]) (i:=4) (t:=.bin .Mult (.bin .Mod (.var 0) (.int 2)) (.var 3)) rfl (aT (aT (aC rfl) aH.e (eQ (by decide)) rfl).e (aC rfl) (FK ⟨by omega,by omega⟩) rfl).e
 obtain⟨g6,e6⟩:∃g6,aI [] [nD,eT] (.asg (.nm 5) (.sl (.var 4) (.tv (.bin .Mult (.bin .Mod (.var 0) (.int 2)) (.var 3))) .nil)) [Z9 (.od,.int c),Z9 (.od,.list (ws.map .str)),Z9 (.od,.int b),Z9 (.al,.int ws.length),Z9 (.fr,.list (ds.map .int)),Z8,Z8,Z8]=.ok (.nx [Z9 (.od,.int c),Z9 (.od,.list (ws.map .str)),Z9 (.od,.int b),Z9 (.al,.int ws.length),Z9 (.fr,.list (ds.map .int)),Z9 (g6,.list (ow.map .int)),Z8,Z8]):=by
  have:∀g:G,∃g',z1l (g,.list (ow.map .int))=(g',.list (ow.map .int)):=λg=>by
   cases g
   .exact⟨_,show(if imms (ow.map .int)=Z7 then G.fr else .nu,Z1 (ow.map .int))=(G.fr,_) by rw[kK];rfl⟩
   .exact⟨.od,rfl⟩
   .exact⟨.al,rfl⟩
   .exact⟨.nu,rfl⟩
  obtain⟨g',Et⟩:=this g5;refine⟨g',?_⟩;show(aG _ _ _ _>>=λx=>Res.ok (Out.nx (List.set _ 5 (Z9 (z1l x)))))=_;rw[e5,Res.aB];rw[Et];rfl
 refine bJ e6 ?_;have hz:=AJ (Φ:=[nD,eT]) (ρ:=[Z9 (.od,.int c),Z9 (.od,.list (ws.map .str)),Z9 (.od,.int b),Z9 (.al,.int ws.length),Z9 (.fr,.list (ds.map .int)),Z9 (g6,.list (ow.map .int)),Z8,Z8]) (aC (i:=5) rfl) (sL (i:=4) (t:=.bin .Mult (.int 2) (.var 3)) rfl (aT aH.e (aC rfl) (mX (by decide)) rfl).e) (zk (kK ow) (by rw[af];exact bo l1 (by omega))) (zk (kK th) (by rw[af];exact bo l2 (by omega)));rw[Bh]at hz;have hc:=z1e (nt:=1) (js:=[]) (N':=["_law_pair"]) (tg:=.nm 0) (elt:=.bi "min" (.cons (.var 0) .nil)) (λ_=>Z7) (λp=>.int (min p.1 p.2)) hz rfl (λp=>[Z9 (.al,.tuple [.int p.1,.int p.2])]) (λp _=>rfl) (λp _=>tO) λp _ _=>bX (aD (aC rfl) aJ) rfl rfl;rw[im.mpr (λ_ _=>rfl),show((ow.zip th).map λp=>Z0 (min p.1 p.2))=((ow.zip th).map λp=>min p.1 p.2).map .int by rw[gb];rfl]at hc;refine bJ (eC hc (kK _)) ?_;refine bJ (cW (d:=dJ (zp ws ds) (zp ws (cut ds (Z9 (ws.length:Int)) Z8))) (gB (bB (bF (aD (aC rfl) (aD (aC rfl) aJ)) rfl (tX (by omega) (by omega)) (bI _)) (bB (bF (aD (aC rfl) (aD (sL rfl (aC rfl)) aJ)) rfl (tX (by omega) (by omega)) (bI _)) bW)))) ?_;exact cL (dH (gB (bB (v_var rfl (nG _ _)) (bB (GG (aT (aC rfl) aH.e (eQ (by decide)) rfl).e) (bB (bF (aD (aC rfl) (aD (aC rfl) aJ)) rfl (tX (by omega) (by rw[af,rq];omega)) (bI _)) bW)))))
theorem MG (c:Int)(gw:GW ws)(rg:RG rs):∃p,RW ws p/\zA [.int c,.list (ws.map .str),.list (rs.map .int)]=.ok (.fr,mr p):=by
 suffices h:∃p,RW ws p/\aI [] [vV,iD,qU,vW] Ga [Z9 (.od,.int c),Z9 (.od,.list (ws.map .str)),Z9 (.od,.list (rs.map .int)),Z8,Z8,Z8]=.ok (.rt .fr (mr p)) by obtain⟨ns,h1,h2⟩:=h;exact⟨ns,h1,cM h2⟩
 let Q:Res Out->Prop:=λz=>∃p,RW ws p/\z=.ok (.rt .fr (mr p))
 show Q _;rcases rg.cs with h4|⟨t,rfl,t0,t1⟩
 .refine kL (qW rfl) (RG.pP h4) ?_;obtain⟨f,a,⟨pf,pa⟩,ec⟩:=MD c gw rg;obtain⟨w,_,ew⟩:=pN c (k:=3) (by decide) (by decide);obtain⟨v,_,ev⟩:=pN c (k:=4) (by decide) (by decide);refine aL (cW (bF (aD (aC rfl) (aD (aC rfl) (aD (aC rfl) aJ))) rfl ec (nG _ _))) ?_;refine aL (cW (bF (aD (aC rfl) (aD aH.e aJ)) rfl ew rfl)) ?_
  let b:=decide (w%2=0)
  have po:PW ws (own b f a):=by cases hb:b<;>assumption
  have eo:iJ (dJ f a) (.int (w%2))=.ok (pk (own b f a)):=by
   rcases(show w%2=0\/w%2=1 by omega)with e|e
   .have :b=true:=xz e;rw[e,this];rfl
   .have :b=false:=x4 (by omega);rw[e,this];rfl
  refine aL (cW (aZ (aC rfl) (aT (aC rfl) aH.e (eQ (by decide)) rfl).e eo (bI _))) ?_;obtain⟨r0,WO,WQ⟩:=WK po gw v rg
  obtain⟨r,MH,e5⟩:∃r,(PW ws r/\wi r (own b f a)=Z7)/\aI [] [vV,iD,qU,vW] (.bP (.tv (.cmp .Gt (.bin .Mod (.bin .FloorDiv (.var 4) (.int 2)) (.int 4)) (.int 0))) (.seq (.asg (.nm 5) (.call 0 "_law_less" (.cons (.var 5) (.cons (.call 1 "_law_mix" (.cons (.var 0) (.cons (.int 4) .nil))) (.cons (.var 2) .nil))))) .nil) .nil) [Z9 (.od,.int c),Z9 (.od,.list (ws.map .str)),Z9 (.od,.list (rs.map .int)),Z9 (.al,dJ f a),Z9 (.al,.int w),Z9 (.al,pk (own b f a))]=.ok (.nx [Z9 (.od,.int c),Z9 (.od,.list (ws.map .str)),Z9 (.od,.list (rs.map .int)),Z9 (.al,dJ f a),Z9 (.al,.int w),Z9 (.al,pk r)]):=by
   have ht:Tt [] [vV,iD,qU,vW] (.tv (.cmp .Gt (.bin .Mod (.bin .FloorDiv (.var 4) (.int 2)) (.int 4)) (.int 0))) [Z9 (.od,.int c),Z9 (.od,.list (ws.map .str)),Z9 (.od,.list (rs.map .int)),Z9 (.al,dJ f a),Z9 (.al,.int w),Z9 (.al,pk (own b f a))] (decide (0<w/2%4)):=aO (cJ (aT (aT (aC rfl) aH.e (mH (by decide) (by decide)) rfl).e aH.e (eQ (by decide)) rfl).e aH.e rfl).e rfl;by_cases hh:0<w/2%4
   .exact⟨r0,WO,dV ht (λ_=>bJ (cW (bF (aD (aC rfl) (aD (bF (aD (aC rfl) (aD aH.e aJ)) rfl ev rfl).e (aD (aC rfl) aJ))) rfl WQ (bI _))) cG) λz=>absurd hh (xw z)⟩
   .exact⟨own b f a,⟨po,WL po.pk⟩,dV ht (λz=>absurd (xv z) hh) λ_=>cG⟩
  refine aL e5 ?_;exact bT (dH (gB (bB (v_var rfl (nG _ _)) (bB (GG (aT (aC rfl) aH.e (eQ (by decide)) rfl).e) (bB (v_var rfl (bI _)) bW))))) ⟨(b,f,a,r),⟨pf,pa,MH.1,MH.2⟩,rfl⟩
 .obtain⟨p,hp,ep⟩:=WN c gw (b:=t+1) (by omega) (by omega);exact bT (dV (qW rfl) (λ_=>cL (dH (bF (aD (aC rfl) (aD (aC rfl) (aD (BA rfl).e aJ))) rfl ep (mI p)))) λz=>by cases z) ⟨p,hp,rfl⟩
theorem GH (p:Str×Int):cZ (.tp [i,j]) (gJ (pr p) g,pr p) ρ=.ok ((ρ.set i (Z9 (.al,.str p.1))).set j (Z9 (.al,.int p.2))):=FW rfl rfl
theorem MI (h:PK l)(w:Str):tV [pk l,.str w]=.ok (.fr,.int (look l w)):=by
 refine cM ?_
 let Q:Res Out->Prop:=λz=>z=.ok (.rt .fr (.int (look l w)))
 show Q _;refine zo9 (zi rfl (by decide) (bI l) rfl) (λpre ρ=>(∀p∈pre,p.1≠w)/\∃u2 u3,ρ=[Z9 (.od,pk l),Z9 (.od,.str w),u2,u3]) ⟨(λ_ h=>by cases h),Z8,Z8,rfl⟩ ?_ ?_
 .rintro pre p post ρ hx ⟨hn,u2,u3,rfl⟩
  refine⟨_,GH p,?_⟩;have ht:Tt [] [] (.tv (.cmp .Eq (.var 2) (.var 1))) [Z9 (.od,pk l),Z9 (.od,.str w),Z9 (.al,.str p.1),Z9 (.al,.int p.2)] (decide (p.1=w)):=aO (cJ (k:=decide (p.1=w)) (aC rfl) (aC rfl) (by show Res.ok (aY (.str _) (.str _))=_;rw[zH])).e rfl;by_cases hw:p.1=w
  .refine .inr ⟨.fr,.int p.2,cL (dV ht (λ_=>cL (dH (v_var rfl rfl))) λz=>absurd hw (xw z)),?_⟩;show _=_;rw[<-hw,h.aK (by rw[hx];exact aq _ ah)]
  .refine .inl ⟨_,bJ (dV ht (λz=>absurd (xv z) hw) λ_=>cG) cG,λq hq=>?_,_,_,rfl⟩;rcases cf.mp hq with z|z
   .exact hn q z
   .rw[ay.mp z];exact hw
 .rintro ρ ⟨hn,u2,u3,rfl⟩
  have e:look l w=0:=by unfold look;rw[tM];rfl;intro hk;obtain⟨p,hp,e⟩:=a6.mp hk;exact hn p hp e
  show aI _ _ _ _=_;rw[e];exact cL (dH aH)
theorem BD (hb:PK b):pK [pk a,pk b]=.ok (.fr,.bool (wi a b)):=by
 refine cM ?_
 let Q:Res Out->Prop:=λz=>z=.ok (.rt .fr (.bool (wi a b)))
 show Q _;refine zo9 (zi rfl (by decide) (bI a) rfl) (λpre ρ=>(∀p∈pre,¬look b p.1<p.2)/\∃u2 u3,ρ=[Z9 (.od,pk a),Z9 (.od,pk b),u2,u3]) ⟨(λ_ h=>by cases h),Z8,Z8,rfl⟩ ?_ ?_
 .rintro pre p post ρ hx ⟨hn,u2,u3,rfl⟩
  refine⟨_,GH p,?_⟩;have ht:Tt [] [tV] (.tv (.cmp .Gt (.var 3) (.call 0 "_law_amount" (.cons (.var 1) (.cons (.var 2) .nil))))) [Z9 (.od,pk a),Z9 (.od,pk b),Z9 (.al,.str p.1),Z9 (.al,.int p.2)] (decide (look b p.1<p.2)):=aO (cJ (aC rfl) (bF (aD (aC rfl) (aD (aC rfl) aJ)) rfl (MI hb p.1) rfl).e rfl).e rfl;by_cases hw:look b p.1<p.2
  .refine .inr ⟨.fr,.bool Z6,cL (dV ht (λ_=>cL (dH pE)) λz=>absurd hw (xw z)),?_⟩;show _=_;have:wi a b=false:=by unfold wi;rw[List.isEmpty_eq_false_iff];exact List.ne_nil_of_mem (ce.mpr ⟨by rw[hx];exact aq _ ah,xz hw⟩)
   rw[this]
  .refine .inl ⟨_,bJ (dV ht (λz=>absurd (xv z) hw) λ_=>cG) cG,λq hq=>?_,_,_,rfl⟩;rcases cf.mp hq with z|z
   .exact hn q z
   .rw[ay.mp z];exact hw
 .rintro ρ ⟨hn,u2,u3,rfl⟩
  have e:wi a b=true:=by unfold wi;rw[jf,gc];intro p hp z;exact hn p hp (xv z)
  show aI _ _ _ _=_;rw[e];exact cL (dH pE)
theorem BE (b:Bool):qV [.str (sd b)]=.ok (.fr,.int (if b then 0 else 1)):=by cases b<;>rfl
def hX (p q:Bool×P×P×P):Bool:=ag p.1 p.2.1 p.2.2.1 p.2.2.2 q.1 q.2.1 q.2.2.1 q.2.2.2
structure GR (p:Bool×P×P×P):Prop where
 f:PK p.2.1
 a:PK p.2.2.1
 r:PK p.2.2.2
theorem RW.gr (h:RW ws p):GR p:=⟨h.f.pk,h.a.pk,h.r.pk⟩
theorem pR (h:a[i]?=Z9 (Z9 (g,mr p))):Vv [] Φ (.ix (.var i) (.int 1)) a (.str (sd p.1)):=aZ (aC h) aH.e rfl rfl
theorem zI (h:ρ[i]?=Z9 (Z9 (g,mr p))):Vv [] Φ (.ix (.var i) (.int 2)) ρ (pk p.2.2.2):=aZ (aC h) aH.e rfl (bI _)
theorem zJ (h:ρ[i]?=Z9 (Z9 (g,mr p))):Vv [] Φ (.ix (.var i) (.int 0)) ρ (dJ p.2.1 p.2.2.1):=aZ (aC h) aH.e rfl (nG _ _)
theorem zK (b:Bool)(f a:P):iJ (dJ f a) (.int (if b then 0 else 1))=.ok (pk (own b f a)):=by cases b<;>rfl
theorem MJ (hp:GR p)(hq:GR q):tW [mr p,mr q]=.ok (.fr,.bool (hX p q)):=by
 refine cM ?_;have ht:Tt [] [pK,qV] (.tv (.cmp .Eq (.ix (.var 0) (.int 1)) (.ix (.var 1) (.int 1)))) [Z9 (.od,mr p),Z9 (.od,mr q)] (p.1==q.1):=aO (cJ (pR rfl).e (pR rfl).e (by show Res.ok (sd p.1==sd q.1)=_;rw[Wi])).e rfl;cases hb:p.1==q.1 with
 |true=>
  have e:hX p q=false:=by unfold hX ag;rw[hb];rfl
  rw[e];exact FY ht hb (cL (dH pE))
 |false=>
  refine Bj ht hb ?_;have e:hX p q=(wi p.2.2.2 (own p.1 q.2.1 q.2.2.1)&&wi q.2.2.2 (own q.1 p.2.1 p.2.2.1)):=by unfold hX ag;rw[hb];rfl
  rw[e];exact cL (dH (v_and (bF (aD (zI rfl).e (aD (aZ (zJ rfl).e (bF (aD (pR rfl).e aJ) rfl (BE p.1) rfl).e (zK p.1 _ _) (bI _)).e aJ)) rfl (BD (vZ hq.f hq.a)) rfl).e λ_=>bF (aD (zI rfl).e (aD (aZ (zJ rfl).e (bF (aD (pR rfl).e aJ) rfl (BE q.1) rfl).e (zK q.1 _ _) (bI _)).e aJ)) rfl (BD (vZ hp.f hp.a)) rfl))
theorem MK {α:Type}(xs:List α):xs.zipIdx.map (λx=>Z0 x.2)=(cr xs.length).map λ(i:Nat)=>.int i:=by rw[show(λx:α×Nat=>Z0 x.2)=(λ(i:Nat)=>Z0 i)∘wb from rfl,<-gb,List.zipIdx_map_snd,jw]
theorem WR {b c:Type}{G:b->Option c}{pre a:List b}{x:b}{v:c}(h:∀y∈pre,G y=Z8)(hx:G x=Z9 v):(pre++x::a).findSome? G=Z9 v:=by grind
theorem ML {α β:Type}{G:α->Option β}{xs:List α}(h:∀y∈xs,G y=Z8):xs.findSome? G=none:=pq.mpr h
def dN:Option Nat->D
 |none=>.none
 |some k=>.int k
def wG (q:Bool×P×P×P)(x:(Bool×P×P×P)×Nat):Option Nat:=if hX x.1 q then Z9 x.2 else Z8
def fc (ps:List (Bool×P×P×P))(q:Bool×P×P×P):Option Nat:=ps.zipIdx.findSome? (wG q)
theorem GI (ps:List (Bool×P×P×P)):imms (ps.map mr)=true:=zE mI ps
theorem WS {α β:Type}{G:α->Option β}{pre:List α}{x:α}(h:∀y∈pre,G y=Z8)(hx:G x=Z8):∀y∈pre++[x],G y=none:=λy hy=>by
 rcases cf.mp hy with z|z
 .exact h y z
 .rw[ay.mp z];exact hx
theorem WT (ps:List (Bool×P×P×P)):gO "len" [.list (ps.map mr)]=.ok (.int (ps.length:Int)):=by show Res.ok (Z0 ((ps.map mr).length:Int))=_;rw[af]
theorem WU {ps:List (Bool×P×P×P)}(h:ρ[i]?=Z9 (Z9 (g,.list (ps.map mr))))(hl:ps.length<=100):evF [] Φ (.gM (.cons (.bi "len" (.cons (.var i) .nil)) .nil)) ρ=.ok (.fr,ps.zipIdx.map λx=>.int x.2,ρ):=by rw[MK];exact zj (aD (bX (aD (aC h) aJ) (WT ps) rfl).e aJ) (zb (by omega) (by omega))
theorem GJ {ps:List (Bool×P×P×P)}{x:(Bool×P×P×P)×Nat}(h:ps[x.2]?=Z9 x.1):iJ (.list (ps.map mr)) (.int x.2)=.ok (mr x.1):=by have eB:=(bc.mp h).1;rw[Gu mr x.1 (by omega) (by omega)];rw[az,show(x.2:Int).toNat=x.2 from rfl,h];rfl
theorem WV (hp:∀p∈ps,GR p)(hq:GR q)(hl:ps.length<=100):Ge [.list (ps.map mr),mr q]=.ok (.fr,dN (fc ps q)):=by
 refine cM ?_
 let Q:Res Out->Prop:=λz=>z=.ok (.rt .fr (dN (fc ps q)))
 show Q _;refine zo9 (WU rfl hl) (λpre ρ=>(∀y∈pre,wG q y=Z8)/\∃u2,ρ=[Z9 (.od,.list (ps.map mr)),Z9 (.od,mr q),u2]) ⟨(λ_ h=>by cases h),Z8,rfl⟩ ?_ ?_
 .rintro pre x post ρ hx ⟨hn,u2,rfl⟩
  have hz:=Gw (by rw[hx];exact aq _ ah);have hm:=bx hz;refine⟨_,rfl,?_⟩;have ht:Tt [] [tW] (.tv (.call 0 "_law_clash" (.cons (.ix (.var 0) (.var 2)) (.cons (.var 1) .nil)))) [Z9 (.od,.list (ps.map mr)),Z9 (.od,mr q),Z9 (.al,.int x.2)] (hX x.1 q):=aO (bF (aD (aZ (aC rfl) (aC rfl) (GJ hz) (mI _)).e (aD (aC rfl) aJ)) rfl (MJ (hp _ hm) hq) rfl).e rfl;cases ha:hX x.1 q with
  |true=>
   refine .inr ⟨.fr,.int x.2,cL (dV ht (λ_=>cL (dH (v_var rfl rfl))) λz=>by rw[ha]at z;cases z),?_⟩;show _=_;have e:fc ps q=Z9 x.2:=by unfold fc;rw[hx];exact WR hn (by unfold wG;rw[ha];rfl)
   rw[e];rfl
  |false=>exact .inl ⟨_,bJ (dV ht (λz=>by rw[ha]at z;cases z) λ_=>cG) cG,WS hn (by unfold wG;rw[ha];rfl),_,rfl⟩
 .rintro ρ ⟨hn,u2,rfl⟩
  have e:fc ps q=none:=ML hn;show aI _ _ _ _=_;rw[e];exact cL (dH VX)
theorem WW {α:Type}(xs:List α)(h:n<=xs.length):cut xs Z8 (Z9 (n:Int))=xs.take n:=by
 show(xs.drop 0).take (min (n:Int).toNat xs.length-0)=_
 congr 1;omega
theorem WX {ps:List (Bool×P×P×P)}(hp:∀p∈ps,GR p)(hl:ps.length<=100):∃qs:List (Bool×P×P×P),((∀p∈qs,p∈ps)/\qs.length<=ps.length/\qs.Pairwise λp q=>hX q p=Z6)/\Bo [.list (ps.map mr)]=.ok (.fr,.list (qs.map mr)):=by
 suffices h:∃qs:List (Bool×P×P×P),((∀p∈qs,p∈ps)/\qs.length<=ps.length/\qs.Pairwise λp q=>hX q p=Z6)/\aI [] [tW] Gb [Z9 (.od,.list (ps.map mr)),Z8,Z8]=.ok (.rt .fr (.list (qs.map mr))) by obtain⟨ns,h1,h2⟩:=h;exact⟨ns,h1,cM h2⟩
 let Q:Res Out->Prop:=λz=>∃qs:List (Bool×P×P×P),((∀p∈qs,p∈ps)/\qs.length<=ps.length/\qs.Pairwise λp q=>hX q p=Z6)/\z=.ok (.rt .fr (.list (qs.map mr)))
 show Q _;refine aL (eC (eS bW) rfl) ?_;refine q_nm (iO rfl rfl rfl) mI (λpre ρ=>∃(qs:List (Bool×P×P×P)) (u2:Option GD),ρ=[Z9 (.od,.list (ps.map mr)),Z9 (.fr,.list (qs.map mr)),u2]/\(∀p∈qs,p∈ps)/\qs.length<=pre.length/\qs.Pairwise λp q=>hX q p=Z6) ⟨[],Z8,rfl,(λ_ h=>by cases h),ar _,List.Pairwise.nil⟩ ?_ ?_
 .rintro pre x post ρ hx ⟨qs,u2,rfl,h1,h2,h3⟩
  have hm:x∈ps:=by rw[hx];exact aq _ ah
  have jZ:pre.length<100:=by have:=congrArg gq hx;rw[am,a8]at this;omega
  have e1:aG [] [tW] (.var 1) [Z9 (.od,.list (ps.map mr)),Z9 (.fr,.list (qs.map mr)),Z9 (.al,mr x)]=.ok (.al,.list (qs.map mr)):=rfl;have hc:=z1e (ρ:=[Z9 (.od,.list (ps.map mr)),Z9 (.fr,.list (qs.map mr)),Z9 (.al,mr x)]) (nt:=1) (js:=[2]) (N':=["_law_two","_law_one"]) (tg:=.nm 0) (cond:=.tv (.call 0 "_law_clash" (.cons (.var 1) (.cons (.var 0) .nil)))) (elt:=.var 0) (λy=>hX x y) mr (cE e1 rfl) rfl (λy=>[Z9 (.al,mr y),Z9 (.al,mr x)]) (λy _=>kZ (mI y)) (λy hy=>aO (bF (aD (aC rfl) (aD (aC rfl) aJ)) rfl (MJ (hp x hm) (hp y (h1 y hy))) rfl).e rfl) λy _ _=>v_var rfl (mI y)
  have WY:∀l:List (Bool×P×P×P),cQ 39 (l.map mr)=true:=λl=>jJ.mpr λz hz=>by
   obtain⟨p,_,rfl⟩:=a6.mp hz;refine jJ.mpr λw hw=>?_;simp only[aw,eu,or_false]at hw;rcases hw with rfl|rfl|rfl
   .show cQ 37 [pk p.2.1,pk p.2.2.1]=Z7;refine jJ.mpr λw hw=>?_;simp only[aw,eu,or_false]at hw;rcases hw with rfl|rfl<;>exact pD 35 _
   .rfl
   .exact pD 36 _
  have ht:=aO (cJ (Ev.of hc) (Ev.of (eS bW)) (eq_nil _ (WY _))).e rfl;cases he:((qs.filter λy=>hX x y).map mr).isEmpty with
  |false=>refine⟨_,bJ (dV ht (λz=>by rw[he]at z;cases z) λ_=>cG) cG,qs,_,rfl,h1,?_,h3⟩;rw[am];omega
  |true=>
   refine⟨_,bJ (dV ht (λ_=>bJ (pG (v_var rfl (mI x)) rfl (by rw[af];omega)) cG) λz=>by rw[he]at z;cases z) cG,qs++[x],dW (Z9 (.al,mr x)),?_,?_,?_,?_⟩
   .rw[b7];rfl
   .intro p GK;rcases cf.mp GK with z|z
    .exact h1 p z
    .rw[ay.mp z];exact hm
   .rw[am,am];omega
   .rw[List.isEmpty_map,jf,gc]at he;refine jy.mpr ⟨h3,gy _ _,λp GK q hq=>?_⟩;rw[ay.mp hq];have:=he p GK;simpa using this
 .rintro ρ ⟨qs,u2,rfl,h1,h2,h3⟩
  exact bT (z3o rfl) ⟨qs,⟨h1,h2,h3⟩,rfl⟩
theorem MM (h:aG Κ Φ t ρ=.ok (g,.tuple ds))(hs:nZ ρ is ds g=Z9 ρ'):aI Κ Φ (.asg (.tp is) t) ρ=.ok (.nx ρ'):=by show(aG Κ Φ t ρ>>=λx=>cZ (.tp is) x ρ>>=λρ'=>Res.ok (Out.nx ρ'))=_;rw[h,Res.aB];show(Res.eE (nZ ρ is ds g)>>=λρ'=>Res.ok (Out.nx ρ'))=_;rw[hs];rfl
def WZ (xs:List Int)(w:Int)(ws:List Str)(rs cs re:List Int)(tl:Rho):Rho:=Z9 (.od,.list (xs.map .int))::Z9 (.al,.int w)::Z9 (.al,.list (ws.map .str))::Z9 (.al,.list (rs.map .int))::Z9 (.al,.list (cs.map .int))::Z9 (.al,.list (re.map .int))::tl
theorem W0 (hl:xs.length<=63){o:Nat}(hm:m<=60)(o0:0<o)(o1:o<=3)(hk:Φ[k]?=Z9 vU)(tl:Rho):∃w ws rs cs re,BG xs m w ws rs cs re/\aI [] Φ (.asg (.tp [1,2,3,4,5]) (.call k "_law_begun" (.cons (.var 0) (.cons (.int m) (.cons (.int o) .nil))))) (Z9 (.od,.list (xs.map .int))::Z8::Z8::Z8::Z8::Z8::tl)=.ok (.nx (WZ xs w ws rs cs re tl)):=by
 obtain⟨w,ws,rs,cs,re,hb,g,eb,g0⟩:=WG hl hm o0 o1;refine⟨w,ws,rs,cs,re,hb,?_⟩
 have W2:∃g',g'≠.od/\aG [] Φ (.call k "_law_begun" (.cons (.var 0) (.cons (.int m) (.cons (.int o) .nil)))) (Z9 (.od,.list (xs.map .int))::Z8::Z8::Z8::Z8::Z8::tl)=.ok (g',pO w ws rs cs re):=by
  refine⟨gJ (pO w ws rs cs re) (fO g),?_,?_⟩
  .show(if imm (pO w ws rs cs re)=Z7 then G.fr else fO g)≠ .od;cases g<;>first|(exact(g0 rfl).elim)|(cases imm (pO w ws rs cs re)<;>decide)
  .obtain⟨ys,ha,hy⟩:=(aD (ρ:=Z9 (.od,.list (xs.map .int))::Z8::Z8::Z8::Z8::Z8::tl) (aC (i:=0) rfl) (aD (aH).e (aD (aH).e aJ)));rw[Bf,ha,Res.aB,hk];show(vU (ys.map (·.2))>>=_)=_;rw[hy,eb];rfl
 obtain⟨g',g1,eg⟩:=W2;have sl:∀d,iZ (gJ d g',d)=(.al,d):=λd=>by unfold gJ;cases g'<;>first|(exact(g1 rfl).elim)|(cases hd:imm d<;>rfl)
 refine MM eg ?_;show Z9 ((((((Z9 (.od,.list (xs.map .int))::Z8::Z8::Z8::Z8::Z8::tl:Rho).set 1 (Z9 (iZ (gJ (.int w) g',.int w)))).set 2 (Z9 (iZ (gJ (.list (ws.map .str)) g',.list (ws.map .str))))).set 3 (Z9 (iZ (gJ (.list (rs.map .int)) g',.list (rs.map .int))))).set 4 (Z9 (iZ (gJ (.list (cs.map .int)) g',.list (cs.map .int))))).set 5 (Z9 (iZ (gJ (.list (re.map .int)) g',.list (re.map .int)))))=_;rw[sl,sl,sl,sl,sl];rfl
theorem W3 (p:Bool×P×P×P):aY (mr p) (mr p)=true:=by
 have h1:=Bb p.2.1;have h2:=Bb p.2.2.1;have h3:=Bb p.2.2.2;have h4:aY (dJ p.2.1 p.2.2.1) (dJ p.2.1 p.2.2.1)=true:=by show(aY (pk p.2.1) (pk p.2.1)&&(aY (pk p.2.2.1) (pk p.2.2.1)&&Z7))=Z7;rw[h1,h2];rfl
 have h5:aY (.str (sd p.1)) (.str (sd p.1))=true:=by rw[zH];exact xz rfl
 show(aY (dJ p.2.1 p.2.2.1) (dJ p.2.1 p.2.2.1)&&(aY (.str (sd p.1)) (.str (sd p.1))&&(aY (pk p.2.2.2) (pk p.2.2.2)&&Z7)))=Z7;rw[h3,h4,h5];rfl
theorem MN:∀ps:List (Bool×P×P×P),ZW (ps.map mr) (ps.map mr)=Z7
 | []=>rfl
 |p::ps=>by show(aY (mr p) (mr p)&&ZW (ps.map mr) (ps.map mr))=Z7;rw[W3,MN ps];rfl
theorem W4 (l:List (Bool×P×P×P)):cQ 39 (l.map mr)=true:=jJ.mpr λz hz=>by
 obtain⟨p,_,rfl⟩:=a6.mp hz;refine jJ.mpr λw hw=>?_;simp only[aw,eu,or_false]at hw;rcases hw with rfl|rfl|rfl
 .show cQ 37 [pk p.2.1,pk p.2.2.1]=Z7;refine jJ.mpr λw hw=>?_;simp only[aw,eu,or_false]at hw;rcases hw with rfl|rfl<;>exact pD 35 _
 .rfl
 .exact pD 36 _
theorem GL (ps:List (Bool×P×P×P)):cmpD .Eq (.list (ps.map mr)) (.list (ps.map mr))=.ok true:=by show(if(cQ 39 (ps.map mr)&&cQ 39 (ps.map mr))=Z7 then Res.ok (ZW (ps.map mr) (ps.map mr))else .no)=_;rw[W4,MN];rfl
theorem W5 (i:Int):vX [.int i]=.ok (.fr,.bool Z7):=rfl
section
variable {α N:Type}(d:α->N->Int)
def leP (a b:α):Prop:=∀n,d a n<=d b n
variable {d}
theorem leP.refl (a:α):leP d a a:=λ_=>ki _
theorem leP.trans (h:leP d a b)(k:leP d b c):leP d a c:=λn=>Int.le_trans (h n) (k n)
open Classical in
theorem GN {q r:α->Prop}:∀(l:List α),(∀x∈l,q x->r x)->(∃x∈l,r x/\¬q x)->l.countP (λx=>decide (q x))<l.countP (λx=>decide (r x))
 | [],_,⟨_,h,_⟩=>by cases h
 |y::l,hs,⟨x,hx,h1,h2⟩=>by
  rw[iu,iu];have le:l.countP (λx=>decide (q x))<=l.countP (λx=>decide (r x)):=nv λz hz e=>xz (hs z (.tail _ hz) (xv e));by_cases hy:∃x∈l,r x/\¬q x
  .have ih:=GN l (λz hz=>hs z (.tail _ hz)) hy;by_cases a:q y
   .rw[xp (xz a),xp (xz (hs y (.head _) a))];omega
   .rw[xq (by rw[decide_eq_true_iff];exact a)];split<;>omega
  .rcases aw.mp hx with rfl|hx
   .rw[xq (by rw[decide_eq_true_iff];exact h2),xp (xz h1)];omega
   .exact absurd ⟨x,hx,h1,h2⟩ hy
theorem z5q (ext:∀a b:α,(∀n,d a n=d b n)->a=b){L:List α}{p:α->Prop}:∀(k:Nat) (x:α),x∈L->p x->L.countP (λy=>@decide (leP d y x) (Classical.propDecidable _))<=k->∃x∈L,p x/\∀y∈L,p y->leP d y x->y=x:=by
 intro k
 induction k with
 |zero=>intro x hx hp hk;have:0<L.countP (λy=>@decide (leP d y x) (Classical.propDecidable _)):=List.countP_pos_iff.mpr ⟨x,hx,@decide_eq_true _ (Classical.propDecidable _) (leP.refl x)⟩;omega
 |succ k ih=>
  intro x hx hp hk;by_cases h:∃y∈L,p y/\leP d y x/\y≠x
  .obtain⟨y,hy,GO,BF,cU⟩:=h;refine ih y hy GO ?_;have:=GN (q:=λz=>leP d z y) L (λz _ e=>e.trans BF) ⟨x,hx,leP.refl x,λe=>cU (ext y x λn=>Int.le_antisymm (BF n) (e n))⟩;omega
  .exact⟨x,hx,hp,λy hy GO BF=>Classical.byContradiction λz=>h ⟨y,hy,GO,BF,z⟩⟩
structure Lst (d:α->N->Int)(held:α)(Rs M:List α):Prop where
 nd:M.Nodup
 an:∀a∈M,∀b∈M,leP d a b->a=b
 sb:∀m∈M,leP d m held
 al:∀m∈M,∀R∈Rs,¬leP d m R
 cv:∀r,leP d r held->(∀R∈Rs,¬leP d r R)->∃m∈M,leP d m r
 vl:∀m∈M,∀n,d m n=0\/∃R∈Rs,d m n=d R n+1
theorem Lst.start (nn:∀a n,0<=d a n)(hz:∀n,d z n=0):Lst d held [] [z] where
 nd:=bw.mpr ⟨nofun,gm⟩
 an:=λa ha b hb _=>by rw[ay.mp ha,ay.mp hb]
 sb:=λm hm n=>by rw[ay.mp hm,hz];exact nn _ _
 al:=λ_ _ _ h=>by cases h
 cv:=λr _ _=>⟨z,.head _,λn=>by rw[hz];exact nn _ _⟩
 vl:=λm hm n=>.inl (by rw[ay.mp hm,hz])
variable [DecidableEq α]
def lft (d:α->N->Int)(le:α->α->Bool)(jn:α->N->Int->α)(free aR:List α)(n:N)(v:Int):List α:=(aR.map λc=>jn c n v).filter λm=>!(((free.filter λf=>decide (d f n=v))++(aR.filter λc=>decide (0<d c n)).map λc=>jn c n v).any λr=>!decide (r=m)&&le r m)
def uD (d:α->N->Int)(le:α->α->Bool)(jn:α->N->Int->α)(M:List α)(R:α)(ov:List N):List α:=(M.filter λm=>!le m R)++ov.flatMap λn=>lft d le jn (M.filter λm=>!le m R) (M.filter λm=>le m R) n (d R n+1)
theorem Lst.step (hle:∀a b,le a b=Z7↔leP d a b){jn:α->N->Int->α}{ov:List N}(ext:∀a b:α,(∀n,d a n=d b n)->a=b)(nn:∀a n,0<=d a n)
  (j1:∀a n v,0<v->d (jn a n v) n=max (d a n) v) (j2:∀a n v k,0<v->k≠n->d (jn a n v) k=d a k) (GP:∀n,n∈ov↔d R n<d held n) (GQ:ov.Nodup) (h:Lst d held Rs M):Lst d held (Rs++[R]) (uD d le jn M R ov):=by
 have mf:∀{m},m∈(M.filter λm=>!le m R)↔m∈M/\¬leP d m R:=λ{m}=>by rw[ce,<-hle];exact and_congr_right λ_=>by cases le m R<;>simp
 have mc:∀{m},m∈(M.filter λm=>le m R)↔m∈M/\leP d m R:=λ{m}=>by rw[ce,hle]
 have v0:∀n,0<d R n+1:=λn=>by have:=nn R n;omega
 have ml:∀{n m},m∈lft d le jn (M.filter λm=>!le m R) (M.filter λm=>le m R) n (d R n+1)↔(∃c,(c∈M/\leP d c R)/\m=jn c n (d R n+1))/\(∀f,f∈M->¬leP d f R->d f n=d R n+1->leP d f m->f=m)/\∀c,c∈M->leP d c R->0<d c n->leP d (jn c n (d R n+1)) m->jn c n (d R n+1)=m:=λ{n m}=>by
  unfold lft;have ia:∀{L:List α},(!(L.any λr=>!decide (r=m)&&le r m))=Z7↔∀r∈L,¬(r≠m/\leP d r m):=λ{L}=>by rw[g9,List.any_eq_false];refine forall_congr' λr=>forall_congr' λ_=>not_congr ?_;rw[ax,hle,g9,decide_eq_false_iff_not]
  rw[ce,a6,ia];refine and_congr ⟨λ⟨c,hc,e⟩=>⟨c,mc.mp hc,e.symm⟩,λ⟨c,hc,e⟩=>⟨c,mc.mpr hc,e.symm⟩⟩ ⟨λk=>⟨λf f1 f2 f3 f4=>?_,λc c1 c2 c3 c4=>?_⟩,λ⟨k1,k2⟩ r hr=>?_⟩
  .exact Classical.byContradiction λz=>k f (cx _ (ce.mpr ⟨mf.mpr ⟨f1,f2⟩,xz f3⟩)) ⟨z,f4⟩
  .exact Classical.byContradiction λz=>k _ (aq _ (a6.mpr ⟨c,ce.mpr ⟨mc.mpr ⟨c1,c2⟩,xz c3⟩,rfl⟩)) ⟨z,c4⟩
  .rintro⟨z1,z2⟩
   rcases cf.mp hr with hr|hr
   .obtain⟨a,b⟩:=ce.mp hr;obtain⟨a1,a2⟩:=mf.mp a;exact z1 (k1 r a1 a2 (xv b) z2)
   .obtain⟨c,hc,rfl⟩:=a6.mp hr;obtain⟨a,b⟩:=ce.mp hc;obtain⟨a1,a2⟩:=mc.mp a;exact z1 (k2 c a1 a2 (xv b) z2)
 have lv:∀{c n},leP d c R->d (jn c n (d R n+1)) n=d R n+1:=λ{c n} hc=>by rw[j1 _ _ _ (v0 n)];have:=hc n;omega
 have lo:∀{c n k},k≠n->d (jn c n (d R n+1)) k=d c k:=λ{c n k} hk=>j2 _ _ _ _ (v0 n) hk
 have ge:∀{c n},leP d c R->leP d c (jn c n (d R n+1)):=λ{c n} hc k=>by
  by_cases e:k=n
  .subst e;rw[lv hc];have:=hc k;omega
  .rw[lo e];exact ki _
 have mm:∀{m},m∈uD d le jn M R ov↔(m∈M/\¬leP d m R)\/∃n∈ov,m∈lft d le jn (M.filter λm=>!le m R) (M.filter λm=>le m R) n (d R n+1):=λ{m}=>by unfold uD;rw[cf,ke,mf]
 have lf:∀{c n b},c∈M->leP d c R->b∈M->¬leP d b R->leP d (jn c n (d R n+1)) b->False:=λ{c n b} c1 c2 b1 b2 hl=>by have:=h.an c c1 b b1 ((ge c2).trans hl);exact b2 (this▸c2)
 have ln:∀{c n c' n'},leP d c R->leP d c' R->leP d (jn c n (d R n+1)) (jn c' n' (d R n'+1))->n=n':=λ{c n c' n'} hc iB hl=>Classical.byContradiction λe=>by have:=hl n;rw[lv hc,lo e]at this;have:=iB n;omega
 have lz:∀{c c' n},c∈M->leP d c R->c'∈M->leP d c' R->d c n<=d c' n->leP d (jn c n (d R n+1)) (jn c' n (d R n+1))->c=c':=λ{c c' n} c1 c2 d1 d2 hn hl=>h.an c c1 c' d1 λk=>by
  by_cases e:k=n
  .rw[e];exact hn
  .have :=hl k;rw[lo e,lo e]at this;exact this
 refine⟨?_,?_,?_,?_,?_,?_⟩
 .unfold uD;rw[il];refine⟨h.nd.filter _,?_,λa ha b hb e=>?_⟩
  .have one:∀n,(lft d le jn (M.filter fun m=>!le m R) (M.filter fun m=>le m R) n (d R n+1)).Nodup:=fun n=>by
    refine List.Pairwise.filter _ (ij.mpr (ly (λ{a b} ha hb cU e=>cU ?_) (h.nd.filter _)));obtain⟨a1,a2⟩:=mc.mp ha;obtain⟨b1,b2⟩:=mc.mp hb;rcases Int.le_total (d a n) (d b n)with z|z
    .exact lz a1 a2 b1 b2 z (λk=>by rw[e];exact ki _)
    .exact(lz b1 b2 a1 a2 z (λk=>by rw[e];exact ki _)).symm
   induction ov with
   |nil=>exact gm
   |cons n ov ih=>
    rw[bw]at GQ;rw[nh,il];refine⟨one n,?_,λa ha b hb e=>?_⟩
    .clear ih GP
     have:∀l:List N,l.Nodup->(l.flatMap λn=>lft d le jn (M.filter λm=>!le m R) (M.filter λm=>le m R) n (d R n+1)).Nodup:=λl=>by
      induction l with
      |nil=>exact λ_=>gm
      |cons n l ih=>intro hl;rw[bw]at hl;rw[nh,il];refine⟨one n,ih hl.2,λa ha b hb e=>?_⟩;subst e;obtain⟨n',nQ,hb⟩:=ke.mp hb;obtain⟨⟨c,⟨c1,c2⟩,e1⟩,_⟩:=ml.mp ha;obtain⟨⟨c',⟨GS,wH⟩,e2⟩,_⟩:=ml.mp hb;have:=ln c2 wH (by rw[<-e1,<-e2];exact leP.refl _);exact hl.1 (this▸nQ)
     exact this ov GQ.2
    .subst e;obtain⟨n',nQ,hb⟩:=ke.mp hb;obtain⟨⟨c,⟨c1,c2⟩,e1⟩,_⟩:=ml.mp ha;obtain⟨⟨c',⟨GS,wH⟩,e2⟩,_⟩:=ml.mp hb;have:=ln c2 wH (by rw[<-e1,<-e2];exact leP.refl _);exact GQ.1 (this▸nQ)
  .subst e;obtain⟨a1,a2⟩:=mf.mp ha;obtain⟨n,_,hb⟩:=ke.mp hb;obtain⟨⟨c,⟨c1,c2⟩,e⟩,_⟩:=ml.mp hb;exact lf c1 c2 a1 a2 (by rw[<-e];exact leP.refl _)
 .intro a ha b hb kU;rcases mm.mp ha with⟨a1,a2⟩|⟨n,hn,ha⟩<;>rcases mm.mp hb with⟨b1,b2⟩|⟨n',nQ,hb⟩
  .exact h.an a a1 b b1 kU
  .obtain⟨⟨c,⟨c1,c2⟩,e⟩,k1,_⟩:=ml.mp hb;refine k1 a a1 a2 ?_ kU;have ex:∃k,¬d a k<=d R k:=Classical.byContradiction λz=>a2 λk=>Classical.byContradiction λy=>z ⟨k,y⟩;obtain⟨k,hk⟩:=ex;have yE:=kU k;have ek:=Classical.byContradiction λz=>by rw[e,lo z]at yE;have:=c2 k;omega
   subst ek;rw[e,lv c2]at yE;omega
  .obtain⟨⟨c,⟨c1,c2⟩,e⟩,_⟩:=ml.mp ha;exact(lf c1 c2 b1 b2 (by rw[<-e];exact kU)).elim
  .obtain⟨⟨c,⟨c1,c2⟩,e⟩,_⟩:=ml.mp ha;obtain⟨⟨c',⟨GS,wH⟩,e'⟩,_,k2⟩:=ml.mp hb;have en:=ln c2 wH (by rw[<-e,<-e'];exact kU);subst en;by_cases hp:0<d c n
   .rw[e]at kU ⊢;exact k2 c c1 c2 hp kU
   .have :=lz (n:=n) c1 c2 GS wH (by have :=nn c' n;omega) (by rw[<-e,<-e'];exact kU);rw[e,e',this]
 .intro m hm;rcases mm.mp hm with⟨a1,_⟩|⟨n,hn,hm⟩
  .exact h.sb m a1
  .obtain⟨⟨c,⟨c1,c2⟩,e⟩,_⟩:=ml.mp hm;intro k;rw[e];by_cases z:k=n
   .subst z;rw[lv c2];have:=(GP k).mp hn;omega
   .rw[lo z];exact h.sb c c1 k
 .intro m hm R' hR hl;rcases mm.mp hm with⟨a1,a2⟩|⟨n,hn,hm⟩
  .rcases cf.mp hR with hR|hR
   .exact h.al m a1 R' hR hl
   .rw[ay.mp hR]at hl;exact a2 hl
  .obtain⟨⟨c,⟨c1,c2⟩,e⟩,_⟩:=ml.mp hm;rw[e]at hl;rcases cf.mp hR with hR|hR
   .exact h.al c c1 R' hR ((ge c2).trans hl)
   .rw[ay.mp hR]at hl;have:=hl n;rw[lv c2]at this;omega
 .intro r hr ha;obtain⟨m,hm,BH⟩:=h.cv r hr λR' hR=>ha R' (cx _ hR);by_cases hc:leP d m R
  .have ex:∃n,¬d r n<=d R n:=Classical.byContradiction λz=>ha R (aq _ (.head _)) λk=>Classical.byContradiction λy=>z ⟨k,y⟩;obtain⟨n,hn⟩:=ex;have W6:=(GP n).mpr (by have:=hr n;omega)
   have hx:leP d (jn m n (d R n+1)) r:=λk=>by
    by_cases z:k=n
    .subst z;rw[lv hc];omega
    .rw[lo z];exact BH k
   obtain⟨x,qG,BJ,W7⟩:=z5q ext (L:=(M.filter λm=>le m R).map λc=>jn c n (d R n+1)) (p:=λx=>leP d x r) _ _ (a6.mpr ⟨m,mc.mpr ⟨hm,hc⟩,rfl⟩) hx (ar _);obtain⟨c,fZ,rfl⟩:=a6.mp qG;obtain⟨c1,c2⟩:=mc.mp fZ;by_cases hf:∃f,(f∈M/\¬leP d f R)/\leP d f (jn c n (d R n+1))
   .obtain⟨f,W8,GF⟩:=hf;exact⟨f,mm.mpr (.inl W8),GF.trans BJ⟩
   .refine⟨_,mm.mpr (.inr ⟨n,W6,ml.mpr ⟨⟨c,⟨c1,c2⟩,rfl⟩,λf f1 f2 _ f4=>absurd ⟨f,⟨f1,f2⟩,f4⟩ hf,λc' d1 d2 _ d4=>?_⟩⟩),BJ⟩;exact W7 _ (a6.mpr ⟨c',mc.mpr ⟨d1,d2⟩,rfl⟩) (d4.trans BJ) d4
  .exact⟨m,mm.mpr (.inl ⟨hm,hc⟩),BH⟩
 .intro m hm k;rcases mm.mp hm with⟨a1,_⟩|⟨n,hn,hm⟩
  .exact(h.vl m a1 k).imp id λ⟨R',hR,e⟩=>⟨R',cx _ hR,e⟩
  .obtain⟨⟨c,⟨c1,c2⟩,e⟩,_⟩:=ml.mp hm;rw[e];by_cases z:k=n
   .subst z;exact .inr ⟨R,aq _ (.head _),lv c2⟩
   .rw[lo z];exact(h.vl c c1 k).imp id λ⟨R',hR,e⟩=>⟨R',cx _ hR,e⟩
end
theorem MO {α:Type} [DecidableEq α]:∀{l m:List α},l.Nodup->(∀x∈l,x∈m)->l.length<=m.length
 | [],m,_,_=>dr _
 |x::l,m,nd,h=>by rw[bw]at nd;have hx:=h x (.head _);have:=MO nd.2 λy hy=>(tt (show y≠x from λe=>nd.1 (e▸hy))).mpr (h y (.tail _ hy));rw[qc hx]at this;have:=rc hx;rw[a8];omega
abbrev T3:=Nat×Nat×Nat
def cj (p:T3):Nat:=if p.1+p.2.1<=8 then p.2.1 else 8-p.1
def ck (p:T3):Nat:=if p.1+p.2.1-cj p+p.2.2<=16-2*cj p then p.2.2 else 16-2*cj p-(p.1+p.2.1-cj p)
def codes:List (Nat×Nat):=(cr 9).flatMap λj=>(cr (min (17-2*j) 9)).map λk=>(j,k)
theorem W9:codes.length=61:=by decide
theorem W' (h:p.1<=8/\p.2.1<=8/\p.2.2<=8):(cj p,ck p)∈codes:=by
 obtain⟨x,y,z⟩:=p;obtain⟨h1,h2,h3⟩:=h
 dsimp only at h1 h2 h3
 refine ke.mpr ⟨cj (x,y,z),iy.mpr ?_,a6.mpr ⟨ck (x,y,z),iy.mpr ?_,rfl⟩⟩
 .unfold cj;dsimp only;split<;>omega
 .unfold ck;dsimp only;have hj:cj (x,y,z)<=8/\cj (x,y,z)<=x+y:=by unfold cj;dsimp only;split<;>omega
  generalize cj (x,y,z)=j at hj;split<;>omega
theorem Xa (hp:p.1<=8/\p.2.1<=8/\p.2.2<=8)(hq:q.1<=8/\q.2.1<=8/\q.2.2<=8)(e1:cj p=cj q)(e2:ck p=ck q):(p.1<=q.1/\p.2.1<=q.2.1/\p.2.2<=q.2.2)\/(q.1<=p.1/\q.2.1<=p.2.1/\q.2.2<=p.2.2):=by
 obtain⟨x,y,z⟩:=p;obtain⟨x',y',z'⟩:=q;obtain⟨h1,h2,h3⟩:=hp;obtain⟨h4,h5,h6⟩:=hq
 dsimp only at *
 have ch:(x+y<=x'+y'->x<=x'/\y<=y')/\(x'+y'<=x+y->x'<=x/\y'<=y):=by
  unfold cj at e1
  dsimp only at e1
  split at e1<;>split at e1<;>omega
 have hj:cj (x,y,z)<=8/\cj (x,y,z)<=x+y/\x+y<=16-cj (x,y,z):=by unfold cj;dsimp only;split<;>omega
 have hj':cj (x',y',z')<=8/\cj (x',y',z')<=x'+y'/\x'+y'<=16-cj (x',y',z'):=by unfold cj;dsimp only;split<;>omega
 unfold ck at e2
 dsimp only at e2
 rw[<-e1]at e2 hj';generalize cj (x,y,z)=j at hj hj' e2;split at e2<;>split at e2
 .rcases Nat.le_total (x+y) (x'+y')with a|a
  .exact .inl ⟨(ch.1 a).1,(ch.1 a).2,by omega⟩
  .exact .inr ⟨(ch.2 a).1,(ch.2 a).2,by omega⟩
 .have a:x+y<=x'+y':=by omega
  exact .inl ⟨(ch.1 a).1,(ch.1 a).2,by omega⟩
 .have a:x'+y'<=x+y:=by omega
  exact .inr ⟨(ch.2 a).1,(ch.2 a).2,by omega⟩
 .have a:x+y=x'+y':=by omega
  rcases Nat.le_total z z' with b|b
  .exact .inl ⟨(ch.1 (by omega)).1,(ch.1 (by omega)).2,b⟩
  .exact .inr ⟨(ch.2 (by omega)).1,(ch.2 (by omega)).2,b⟩
theorem Xb {L:List T3}(nd:L.Nodup)(hl:∀p∈L,p.1<=8/\p.2.1<=8/\p.2.2<=8)(an:∀p∈L,∀q∈L,p.1<=q.1/\p.2.1<=q.2.1/\p.2.2<=q.2.2->p=q):L.length<=61:=by
 rw[<-W9,<-af (f:=λp=>(cj p,ck p))];refine MO ?_ λc hc=>?_
 .refine ij.mpr (ly (λ{p q} hp hq cU e=>cU ?_) nd);obtain⟨e1,e2⟩:=xu e;rcases Xa (hl p hp) (hl q hq) e1 e2 with z|z
  .exact an p hp q hq z
  .exact(an q hq p hp z).symm
 .obtain⟨p,hp,rfl⟩:=a6.mp hc;exact W' (hl p hp)
section
variable {α N:Type}{d:α->N->Int}
def uE (Rs:List α)(d:α->N->Int)(n:N)(x:Int):Nat:=Rs.countP λR=>decide (d R n+1<=x)
theorem GU (h:uE Rs d n x<=uE Rs d n y)(hx:x=0\/∃R∈Rs,x=d R n+1)(hy:0<=y):x<=y:=by
 rcases hx with rfl|⟨R,hR,rfl⟩
 .exact hy
 refine Classical.byContradiction λz=>?_;have:=GN (q:=λR'=>d R' n+1<=y) (r:=λR'=>d R' n+1<=d R n+1) Rs (λR' _ e=>by omega) ⟨R,hR,ki _,z⟩;unfold uE at h;have e:∀(p:α->Prop) [DecidablePred p],Rs.countP (λx=>@decide (p x) (Classical.propDecidable _))=Rs.countP (λx=>decide (p x)):=λp _=>List.countP_congr λx _=>by rw[@decide_eq_true_iff _ (Classical.propDecidable _),decide_eq_true_iff]
 rw[e,e]at this;omega
theorem Lst.qN (nn:∀a n,0<=d a n)(h:Lst d held Rs M)(h8:Rs.length<=8)(ho:∀m∈M,∀n,n≠n0->n≠n1->n≠n2->d m n=0):M.length<=61:=by
 have GV:∀n x,uE Rs d n x<=8:=λn x=>bo List.countP_le_length h8
 let f:α->T3:=λm=>(uE Rs d n0 (d m n0),uE Rs d n1 (d m n1),uE Rs d n2 (d m n2))
 have fl:∀a∈M,∀b∈M,(f a).1<=(f b).1/\(f a).2.1<=(f b).2.1/\(f a).2.2<=(f b).2.2->a=b:=λa ha b hb z=>h.an a ha b hb λn=>by
  by_cases e0:n=n0
  .subst e0;exact GU z.1 (h.vl a ha n) (nn b n)
  by_cases e1:n=n1
  .subst e1;exact GU z.2.1 (h.vl a ha n) (nn b n)
  by_cases e2:n=n2
  .subst e2;exact GU z.2.2 (h.vl a ha n) (nn b n)
  rw[ho a ha n e0 e1 e2];exact nn b n
 rw[<-af (f:=f)];refine Xb (ij.mpr (ly (λ{a b} ha hb cU e=>cU (fl a ha b hb (by rw[e];exact⟨ar _,ar _,ar _⟩))) h.nd)) (λp hp=>?_) λp hp q hq z=>?_
 .obtain⟨a,_,rfl⟩:=a6.mp hp;exact⟨GV _ _,GV _ _,GV _ _⟩
 .obtain⟨a,ha,rfl⟩:=a6.mp hp;obtain⟨b,hb,rfl⟩:=a6.mp hq;rw[fl a ha b hb z]
end
abbrev PS:={l:P//PK l}
def pkS (x:PS):D:=pk x.1
def dP (x:PS)(n:Str):Int:=look x.1 n
def fJ (a b:PS):Bool:=wi a.1 b.1
theorem Xc (a b:P):PK (jn a b):=Gj _
def hZ (a:PS)(n:Str)(v:Int):PS:=⟨jn a.1 [(n,v)],Xc _ _⟩
theorem fK (x:PS):imm (pkS x)=true:=bI _
theorem jF (l:List PS):imms (l.map pkS)=true:=zE fK l
theorem MP:∀a b:PS,(∀n,dP a n=dP b n)->a=b:=λa b h=>Subtype.ext (PK.ext a.2 b.2 h)
theorem uF:∀(a:PS) n,0<=dP a n:=λa n=>a.2.bN n
theorem uG:∀a b:PS,fJ a b=Z7↔leP dP a b:=λa b=>Ml a.2 b.2
theorem MQ (h:0<v):PK [(n,v)]:=⟨gy _ _,λp hp=>by rw[ay.mp hp];exact h⟩
theorem MR (n k:Str)(v:Int):look [(n,v)] k=if n=k then v else 0:=by show((if n=k then Z9 v else Z8:Option Int).getD 0)=_;split<;>rfl
theorem Xd:∀(a:PS) n v,0<v->dP (hZ a n v) n=max (dP a n) v:=λa n v h=>by show look (jn a.1 [(n,v)]) n=_;rw[Gq a.2 (MQ h),MR,xp rfl];rfl
theorem Xe:∀(a:PS) n v k,0<v->k≠n->dP (hZ a n v) k=dP a k:=λa n v k h hk=>by show look (jn a.1 [(n,v)]) k=_;rw[Gq a.2 (MQ h),MR,xq (Ne.symm hk)];have:=uF a k;unfold dP at this ⊢;omega
theorem Xf (ha:PK a)(hb:PK b)(n:Str):n∈ov a b↔look b n<look a n:=by
 unfold ov;rw[a6];constructor
 .rintro⟨p,hp,rfl⟩
  obtain⟨h1,h2⟩:=ce.mp hp;rw[ha.aK h1];exact xv h2
 .intro h;have h0:=hb.bN n;have hk:n∈ks a:=ha.key.mpr (by omega);obtain⟨p,hp,rfl⟩:=a6.mp hk;rw[ha.aK hp]at h;exact⟨p,ce.mpr ⟨hp,xz h⟩,rfl⟩
theorem Xg (ha:PK a):(ov a b).Nodup:=List.Nodup.sublist (List.Sublist.map _ (List.filter_sublist)) ha.nd
theorem MS (p q:Str×Int):aY (pr p) (pr q)=decide (p=q):=by show(aY (.str p.1) (.str q.1)&&(aY (.int p.2) (.int q.2)&&Z7))=_;rw[zH,mY,um,<-Bool.decide_and];exact decide_eq_decide.mpr (Prod.ext_iff).symm
theorem MT:∀l m:P,ZW (l.map pr) (m.map pr)=decide (l=m)
 | [],[]=>rfl
 | [],_::_=>rfl
 |_::_,[]=>rfl
 |p::l,q::m=>by show(aY (pr p) (pr q)&&ZW (l.map pr) (m.map pr))=_;rw[MS,MT l m,<-Bool.decide_and];exact decide_eq_decide.mpr (List.cons.injEq .. ▸Iff.rfl)
theorem BK (a b:PS):aY (pkS a) (pkS b)=decide (a=b):=by show ZW (a.1.map pr) (b.1.map pr)=_;rw[MT];exact decide_eq_decide.mpr Subtype.ext_iff.symm
theorem Xi (a b:PS):cmpD .NotEq (pkS a) (pkS b)=.ok (!decide (a=b)):=by show(if(shal 40 (pk a.1)&&shal 40 (pk b.1))=Z7 then Res.ok (!aY (pkS a) (pkS b))else .no)=_;rw[pD 38,pD 38,BK];rfl
theorem GX (h:PK al)(n:Str):kM [pk al,.str n]=.ok (.fr,.int (look al n)):=by refine cM ?_;exact cL (dH (pF (Ev.of (nB (aC rfl) rfl (LI _ h.nd) (Ba al))) (aD (aC rfl) (aD aH.e aJ)) (FJ _ _) rfl))
theorem MU {α:Type}(f:α->Bool):∀l:List α,allB (l.map λx=>PyData.bool (f x))=Z9 (l.map f)
 | []=>rfl
 |x::l=>by show(allB (l.map λx=>PyData.bool (f x))).map _=_;rw[MU f l];rfl
theorem Xj {α:Type}(f:α->Bool)(l:List α):aggD "any" Z7 (l.map λx=>PyData.bool (f x))=.ok (.bool (l.any f)):=by show Res.eE ((allB (l.map λx=>PyData.bool (f x))).map λbs=>PyData.bool (bs.any id))=_;rw[MU];show Res.ok (PyData.bool ((l.map f).any id))=_;rw[List.any_map];rfl
theorem GY (m:PS)(L:List PS):pI [pkS m,.list (L.map pkS)]=.ok (.fr,.bool (!(L.any λr=>!decide (r=m)&&fJ r m))):=by refine cM ?_;have hc:=z1e (Κ:=[]) (Φ:=[fT]) (ρ:=[Z9 (.od,pkS m),Z9 (.od,.list (L.map pkS))]) (nt:=1) (js:=[0]) (N':=["rival","one"]) (tg:=.nm 0) (it:=.tv (.var 1)) (elt:=.and (.cmp .NotEq (.var 0) (.var 1)) (.call 0 "within" (.cons (.var 0) (.cons (.var 1) .nil)))) (λ_=>Z7) (λr=>.bool (!decide (r=m)&&fJ r m)) (cE rfl rfl) rfl (λr=>[Z9 (.al,pkS r),Z9 (.od,pkS m)]) (λr _=>kZ (fK r)) (λr _=>tO) λr _ _=>v_and (cJ (aC rfl) (aC rfl) (Xi r m)).e λ_=>bF (aD (aC rfl) (aD (aC rfl) aJ)) rfl (pL m.2) rfl;rw[im.mpr λ_ _=>rfl]at hc;exact cL (dH (v_not (vR (Ev.of hc) rfl (Xj _ _) rfl).e rfl))
theorem MV (h:aG Κ Φ a ρ=.ok (.fr,.list zs))(hi:imms zs=Z7)(hr:ρ[i]?=Z9 (Z9 (.fr,.list xs)))(hl:xs.length+zs.length<=1000)(e:(ρ.set i (Z9 (.fr,.list (xs++zs)))).map dW=ρ'):aI Κ Φ (.mut "extend" i (.cons a .nil)) ρ=.ok (.nx ρ'):=by
 rw[LA,vP,h,Res.aB,FC,Res.aB,Res.aB,hr]
 dsimp only
 have:jQ "extend" xs [(.fr,.list zs)]=.ok (xs++zs):=by show(if(okIn (G.fr,.list zs)&&decide (xs.length+zs.length<=aU))=Z7 then _ else _)=_;rw[xz (show xs.length+zs.length<=aU by unfold aU;omega)];rfl
 rw[this];show Res.ok (Out.nx ((ρ.set i (Z9 (.fr,.list (xs++zs)))).map dW))=_;rw[e]
theorem GZ (free aR:List PS)(hv:0<v)(hc:∀c∈aR,c.1.length<=20)(l1:free.length<=200)(l2:aR.length<=200):pJ [.list (free.map pkS),.list (aR.map pkS),pr (n,v)]=.ok (.fr,.list ((lft dP fJ hZ free aR n v).map pkS)):=by
 refine cM ?_
 let Φ:List Fn:=[pI,pH,kM]
 refine bJ (cW (aZ (aC rfl) aH.e rfl rfl)) ?_;have hj:=λc h=>Gp (b:=[(n,v)]) (by have:=hc c h;show c.1.length+1<64;omega)
 let ρ:Rho:=[Z9 (.od,.list (free.map pkS)),Z9 (.od,.list (aR.map pkS)),Z9 (.od,pr (n,v)),Z9 (.al,.str n),Z8,Z8]
 have c1:=z1e (Κ:=[]) (Φ:=Φ) (ρ:=ρ) (nt:=1) (js:=[3,2]) (N':=["one","name","step"]) (tg:=.nm 0) (it:=.tv (.var 0)) (cond:=.tv (.cmp .Eq (.call 2 "degree" (.cons (.var 0) (.cons (.var 1) .nil))) (.ix (.var 2) (.int 1)))) (elt:=.var 0) (λf=>decide (dP f n=v)) pkS (cE rfl rfl) rfl (λr=>[Z9 (.al,pkS r),Z9 (.al,.str n),Z9 (.od,pr (n,v))]) (λr _=>kZ (fK r)) (λr _=>aO (cJ (bF (aD (aC rfl) (aD (aC rfl) aJ)) rfl (GX r.2 n) rfl).e (aZ (aC rfl) aH.e rfl rfl).e (by show Res.ok (aY (.int _) (.int _))=_;rw[mY];rfl)).e rfl) λr _ _=>v_var rfl (fK r);refine bJ (eC c1 (jF _)) ?_
 let ρ1:Rho:=[Z9 (.od,.list (free.map pkS)),Z9 (.od,.list (aR.map pkS)),Z9 (.od,pr (n,v)),Z9 (.al,.str n),Z9 (.fr,.list ((free.filter λf=>decide (dP f n=v)).map pkS)),Z8]
 have c2:=z1e (Κ:=[]) (Φ:=Φ) (ρ:=ρ1) (nt:=1) (js:=[2,3]) (N':=["one","step","name"]) (tg:=.nm 0) (it:=.tv (.var 1)) (cond:=.tv (.cmp .Gt (.call 2 "degree" (.cons (.var 0) (.cons (.var 2) .nil))) (.int 0))) (elt:=.call 1 "join" (.cons (.var 0) (.cons (.tup (.cons (.var 1) .nil)) .nil))) (λc=>decide (0<dP c n)) (λc=>pkS (hZ c n v)) (cE rfl rfl) rfl (λr=>[Z9 (.al,pkS r),Z9 (.od,pr (n,v)),Z9 (.al,.str n)]) (λr _=>kZ (fK r)) (λr _=>aO (cJ (bF (aD (aC rfl) (aD (aC rfl) aJ)) rfl (GX r.2 n) rfl).e aH.e rfl).e rfl) λr hr _=>bF (aD (aC rfl) (aD (gB (bB (v_var rfl (qT (n,v))) bW)).e aJ)) rfl (hj r hr) (fK _);have e2:((aR.filter λc=>decide (0<dP c n)).map λc=>pkS (hZ c n v))=((aR.filter λc=>decide (0<dP c n)).map λc=>hZ c n v).map pkS:=by rw[gb];rfl
 rw[e2]at c2
 let R:List PS:=(free.filter λf=>decide (dP f n=v))++(aR.filter λc=>decide (0<dP c n)).map λc=>hZ c n v
 let cK:Rho:=[Z9 (.od,.list (free.map pkS)),Z9 (.od,.list (aR.map pkS)),Z9 (.od,pr (n,v)),Z9 (.al,.str n),Z9 (.fr,.list (R.map pkS)),Z8]
 refine bJ (MV (ρ':=cK) c2 (jF _) rfl ?_ ?_) ?_
 .rw[af,af,af];have:=fu (λf=>decide (dP f n=v)) free;have:=fu (λc=>decide (0<dP c n)) aR;omega
 .show lx dW [Z9 (.od,.list (free.map pkS)),Z9 (.od,.list (aR.map pkS)),Z9 (.od,pr (n,v)),Z9 (.al,.str n),Z9 (.fr,.list _),Z8]=_;rw[<-b7];rfl
 have c3:=z1e (Κ:=[]) (Φ:=Φ) (ρ:=cK) (nt:=1) (js:=[2]) (N':=["one","step"]) (tg:=.nm 0) (it:=.tv (.var 1)) (elt:=.call 1 "join" (.cons (.var 0) (.cons (.tup (.cons (.var 1) .nil)) .nil))) (λ_=>Z7) (λc=>pkS (hZ c n v)) (cE rfl rfl) rfl (λr=>[Z9 (.al,pkS r),Z9 (.od,pr (n,v))]) (λr _=>kZ (fK r)) (λr _=>tO) λr hr _=>bF (aD (aC rfl) (aD (gB (bB (v_var rfl (qT (n,v))) bW)).e aJ)) rfl (hj r hr) (fK _);rw[im.mpr λ_ _=>rfl,show(aR.map λc=>pkS (hZ c n v))=(aR.map λc=>hZ c n v).map pkS by rw[gb];rfl]at c3;refine bJ (eC c3 (jF _)) ?_;refine cL (vS (λi z=>by cases z) ?_);exact z1e (cond:=.tv (.call 0 "is_least" (.cons (.var 0) (.cons (.var 1) .nil)))) (λm=>!(R.any λr=>!decide (r=m)&&fJ r m)) pkS (w:=(.al,(aR.map λc=>hZ c n v).map pkS)) (cE (x:=.list ((aR.map λc=>hZ c n v).map pkS)) rfl rfl) rfl (λr=>[Z9 (.al,pkS r),Z9 (.al,.list (R.map pkS))]) (λr _=>kZ (fK r)) (λr _=>aO (bF (aD (aC rfl) (aD (aC rfl) aJ)) rfl (GY r R) rfl).e rfl) λr _ _=>v_var rfl (fK r)
theorem MW (free aR:List PS)(n:Str)(v:Int):(lft dP fJ hZ free aR n v).length<=aR.length:=by refine bo (fu _ _) ?_;rw[af];exact ar _
theorem vF {α β:Type}(f:α->List β)(k:Nat):∀l:List α,(∀a∈l,(f a).length<=k)->(l.flatMap f).length<=l.length*k
 | [],_=>by simp
 |a::l,h=>by rw[nh,am,a8,wv];have:=h a (.head _);have:=vF f k l λb hb=>h b (.tail _ hb);omega
theorem G0 (M:List PS)(held R:PS)(hc:∀c∈M,c.1.length<=20)(l1:M.length<=61)(l2:(ov held.1 R.1).length<=6):mG [.list (M.map pkS),pkS held,pkS R]=.ok (.fr,.list ((uD dP fJ hZ M R (ov held.1 R.1)).map pkS)):=by
 refine cM ?_
 let Φ:List Fn:=[mF,pJ,kM,fT]
 let Q:Res Out->Prop:=λz=>z=.ok (.rt .fr (.list ((uD dP fJ hZ M R (ov held.1 R.1)).map pkS)))
 show Q _
 let fr:List PS:=M.filter λm=>!fJ m R
 let ca:List PS:=M.filter λm=>fJ m R
 have cw:∀{ρ:Rho},ρ[0]?=Z9 (Z9 (.od,.list (M.map pkS)))->evW [] Φ (.tv (.var 0)) ρ=.ok (.od,M.map pkS):=λh=>cE (by rw[vQ,h];rfl) rfl;have c1:=z1e (ρ:=[Z9 (.od,.list (M.map pkS)),Z9 (.od,pkS held),Z9 (.od,pkS R),Z8,Z8,Z8,Z8]) (nt:=1) (js:=[2]) (N':=["one","reach"]) (tg:=.nm 0) (cond:=.not (.tv (.call 3 "within" (.cons (.var 0) (.cons (.var 1) .nil))))) (elt:=.var 0) (λm=>!fJ m R) pkS (cw rfl) rfl (λr=>[Z9 (.al,pkS r),Z9 (.od,pkS R)]) (λr _=>kZ (fK r)) (λr _=>jY (aO (bF (aD (aC rfl) (aD (aC rfl) aJ)) rfl (pL R.2) rfl).e rfl)) λr _ _=>v_var rfl (fK r);refine aL (eC c1 (jF _)) ?_;have c2:=z1e (ρ:=[Z9 (.od,.list (M.map pkS)),Z9 (.od,pkS held),Z9 (.od,pkS R),Z9 (.fr,.list (fr.map pkS)),Z8,Z8,Z8]) (nt:=1) (js:=[2]) (N':=["one","reach"]) (tg:=.nm 0) (cond:=.tv (.call 3 "within" (.cons (.var 0) (.cons (.var 1) .nil)))) (elt:=.var 0) (λm=>fJ m R) pkS (cw rfl) rfl (λr=>[Z9 (.al,pkS r),Z9 (.od,pkS R)]) (λr _=>kZ (fK r)) (λr _=>aO (bF (aD (aC rfl) (aD (aC rfl) aJ)) rfl (pL R.2) rfl).e rfl) λr _ _=>v_var rfl (fK r);refine aL (eC c2 (jF _)) ?_;refine aL (eC (nB (aC rfl) rfl rfl (jF _)) (jF _)) ?_;have GF:fr.length<=61:=bo (fu _ _) l1;have eO:ca.length<=61:=bo (fu _ _) l1
 let g:Str->List PS:=λn=>lft dP fJ hZ fr ca n (dP R n+1)
 let cT:List Str->Option GD->Rho:=λpre u=>[Z9 (.od,.list (M.map pkS)),Z9 (.od,pkS held),Z9 (.od,pkS R),Z9 (.fr,.list (fr.map pkS)),Z9 (.fr,.list (ca.map pkS)),Z9 (.fr,.list ((fr++pre.flatMap g).map pkS)),u]
 refine q_nm (m:=Z2) (xs:=ov held.1 R.1) (g:=.fr) ?_ (λ_=>rfl) (λpre ρ=>∃u,ρ=cT pre u) ⟨Z8,rfl⟩ ?_ ?_
 .refine Eq.trans (FX (x':=.list ((ov held.1 R.1).map .str)) (λi z=>by cases z) ?_ rfl) ?_
  .exact hU (aD (aC (d:=pk held.1) rfl) (aD (aC (d:=pk R.1) rfl) aJ)) rfl (by rw[zD R.2,Wg])
  .show Res.ok (G.fr,_,_)=Res.ok (G.fr,_,_);rw[show cT [] Z8=[Z9 (.od,.list (M.map pkS)),Z9 (.od,pkS held),Z9 (.od,pkS R),Z9 (.fr,.list (fr.map pkS)),Z9 (.fr,.list (ca.map pkS)),Z9 (.fr,.list (fr.map pkS)),Z8] by show[_,_,_,_,_,Z9 (G.fr,Z1 ((fr++[]).map pkS)),_]=_;rw[dg]];rfl
 .rintro pre n post ρ hx ⟨u,rfl⟩
  have hz:=GZ fr ca (n:=n) (v:=dP R n+1) (by have:=uF R n;omega) (λc h=>hc c (ce.mp h).1) (by omega) (by omega);have jZ:pre.length<=5:=by have:=congrArg gq hx;rw[am,a8]at this;omega
  refine⟨_,bJ (MV (ρ':=cT (pre++[n]) (Z9 (.al,.str n))) (hU (aD (aC rfl) (aD (aC rfl) (aD (gB (bB (v_var rfl rfl) (bB (aT (bF (aD (aC rfl) (aD (aC rfl) aJ)) rfl (GX R.2 n) rfl).e aH.e rfl rfl) bW))).e aJ))) rfl hz) (jF _) rfl ?_ ?_) cG,_,rfl⟩
  .rw[af,af,am];have:=MW fr ca n (dP R n+1);have:=vF g ca.length pre λa _=>MW fr ca a _;have:=Nat.mul_le_mul jZ eO;omega
  .show lx dW [_,_,_,_,_,Z9 (G.fr,Z1 _),_]=[_,_,_,_,_,Z9 (G.fr,Z1 ((fr++(pre++[n]).flatMap g).map pkS)),_];rw[show(fr++(pre++[n]).flatMap g).map pkS=(fr++pre.flatMap g).map pkS++(g n).map pkS by rw[uc,<-du,b7,rm]];rfl
 .rintro ρ ⟨u,rfl⟩
  exact bT (z3o rfl) rfl
theorem Xk (p q:Str×Int):bL (pr p) (pr q)=if p.1=q.1 then decide (p.2<q.2)else decide (p.1.cps.toList<q.1.cps.toList):=by
 show(if aY (.str p.1) (.str q.1)then(if aY (.int p.2) (.int q.2)then !([]:List D).isEmpty else decide (p.2<q.2))else decide (p.1.cps.toList<q.1.cps.toList))=_;rw[zH,mY];by_cases h:p.1=q.1
 .rw[xp (xz h),xp h];by_cases k:p.2=q.2
  .rw[xp (xz k),k];exact(x4 (ul _)).symm
  .rw[xq (by rw[x4 k];exact c7)]
 .rw[xq (by rw[x4 h];exact c7),xq h]
theorem Xl (h:bL (pr p) (pr q)=Z7):bL (pr q) (pr p)=false:=by
 rw[Xk]at h ⊢;by_cases e:p.1=q.1
 .rw[xp e]at h;rw[xp e.symm];have:=xv h;exact x4 (by omega)
 .rw[xq e]at h;rw[xq (Ne.symm e)];have h:=xv h;exact x4 λz=>A7 p.1 (A8 h z)
theorem MX:∀l m:P,aF (l.map pr) (m.map pr)=Z7->aF (m.map pr) (l.map pr)=Z6
 | [],[],h=>by cases h
 | [],_::_,_=>rfl
 |_::_,[],h=>by cases h
 |x::l,y::m,h=>by
  have h:(if aY (pr x) (pr y)then aF (l.map pr) (m.map pr)else bL (pr x) (pr y))=true:=h;show(if aY (pr y) (pr x)then aF (m.map pr) (l.map pr)else bL (pr y) (pr x))=Z6;rw[MS]at h ⊢;by_cases e:x=y
  .rw[xp (xz e)]at h;rw[xp (xz e.symm)];exact MX l m h
  .rw[xq (by rw[x4 e];exact c7)]at h;rw[xq (by rw[x4 (Ne.symm e)];exact c7)];exact Xl h
def nJ (a b:PS):Bool:=bL (pkS a) (pkS b)
theorem MY (h:nJ a b=Z7):nJ b a=false:=MX a.1 b.1 h
def fB (x:PS):List PS->List PS
 | []=>[x]
 |y::ys=>if nJ y x then y::fB x ys else x::y::ys
def iA:List PS->List PS
 | []=>[]
 |x::xs=>fB x (iA xs)
theorem MZ (x:PS):∀l:List PS,dQ (pkS x) (l.map pkS)=(fB x l).map pkS
 | []=>rfl
 |y::ys=>by
  show(if nJ y x then _ else _)=lx _ (if _ then _ else _);cases nJ y x with
  |true=>show _::dQ (pkS x) (ys.map pkS)=_;rw[MZ x ys];rfl
  |false=>rfl
theorem M0:∀l:List PS,z1b (l.map pkS)=(iA l).map pkS
 | []=>rfl
 |x::xs=>by show dQ (pkS x) (z1b (xs.map pkS))=_;rw[M0 xs,MZ];rfl
theorem M1 (x:PS):∀l,(fB x l).Perm (x::l)
 | []=>List.Perm.refl _
 |y::ys=>by
  unfold fB;split
  .exact((M1 x ys).cons y).trans (List.Perm.swap x y ys)
  .exact List.Perm.refl _
theorem G1:∀l,(iA l).Perm l
 | []=>List.Perm.refl _
 |x::xs=>(M1 x _).trans ((G1 xs).cons x)
def Chn:List PS->Prop
 |x::y::r=>nJ y x=Z6/\Chn (y::r)
 |_=>True
theorem M3 (x:PS):∀l,Chn l->Chn (fB x l)
 | [],_=>trivial
 | [y],_=>by
  unfold fB;cases h:nJ y x with
  |true=>exact⟨MY h,trivial⟩
  |false=>exact⟨h,trivial⟩
 |y::z::r,h=>by
  have ih:=M3 x (z::r) h.2;unfold fB;cases hy:nJ y x with
  |false=>exact⟨hy,h⟩
  |true=>
   unfold fB at ih ⊢;cases hz:nJ z x with
   |true=>rw[hz]at ih;exact⟨h.1,ih⟩
   |false=>rw[hz]at ih;exact⟨MY hy,ih⟩
theorem M4:∀l,Chn (iA l)
 | []=>trivial
 |x::xs=>M3 x _ (M4 xs)
theorem M5:∀l,Chn l->iA l=l
 | [],_=>rfl
 | [_],_=>rfl
 |x::y::r,h=>by show fB x (iA (y::r))=_;rw[M5 (y::r) h.2];show(if nJ y x then _ else _)=_;rw[h.1];rfl
theorem Xm (h:x.1≠[]):neP (pkS x)=true:=by
 obtain⟨l,hl⟩:=x;cases l with
 |nil=>exact absurd rfl h
 |cons p r=>show((p::r).map pr).all (z2n [Z6,Z7])=Z7;refine a9.mpr λd hd=>?_;obtain⟨q,_,rfl⟩:=a6.mp hd;rfl
theorem M6 (h:l.length<64)(k:l.length<2\/∀x∈l,x.1≠[]):aggD "sorted" Z7 (l.map pkS)=.ok (.list ((iA l).map pkS)):=by
 have hk:kQ (l.map pkS)=true:=by
  unfold kQ;rcases k with k|k
  .rw[af,xz k,mz,lj]
  .have:(l.map pkS).all neP=true:=a9.mpr fun d hd=>by
    obtain⟨c,hc,rfl⟩:=a6.mp hd;exact Xm (k c hc)
   rw[this,mz,lj,lj]
 show(if(Z7&&kQ (l.map pkS)&&decide ((l.map pkS).length<64))=Z7 then Res.ok (Z1 (z1b (l.map pkS)))else .no)=_;rw[hk,af,xz h,M0];rfl
def toS (l:P):PS:=⟨gr l,Gj l⟩
theorem M7 (h:PK l):(toS l).1=l:=PK.ext (Gj l) h λn=>by have:=Gq h PK.nil n;unfold jn at this;rw[dg]at this;refine Eq.trans this ?_;have:=h.bN n;show max (look l n) 0=_;omega
abbrev mJ:=Bool×P×P×P
def zL (b:Bool)(f a:P)(p:mJ):Bool:=decide (p.1≠b)&&wi p.2.2.2 (own p.1 f a)
def brs (b:Bool)(f a:P)(ps:List mJ):List PS:=(ps.filter (zL b f a)).map λp=>toS (own b p.2.1 p.2.2.1)
theorem Xn {ws:List Str}(h:ws.length<=3):∃n0 n1 n2:Str,∀n∈ws,n=n0\/n=n1\/n=n2:=by
 match ws,h with
 | [],_=>exact⟨"","","",λ_ h=>by cases h⟩
 | [a],_=>exact⟨a,a,a,λn hn=>.inl (ay.mp hn)⟩
 | [a,b],_=>exact⟨a,b,b,λn hn=>by simpa using hn⟩
 | [a,b,c],_=>exact⟨a,b,c,λn hn=>by simpa using hn⟩
theorem G2 (h:PW ws l)(k:leP dP m ⟨l,h.pk⟩):PW ws m.1:=⟨m.2,λn hn=>by have:=m.2.key.mp hn;have:=k n;unfold dP at this;exact h.ks n (h.pk.key.mpr (by dsimp only at this;omega))⟩
theorem Xo (h:PW ws l)(hn:n∉ws):look l n=0:=by have:=h.pk.bN n;have:¬0<look l n:=λz=>hn (h.ks n (h.pk.key.mpr z));omega
theorem BL (hw:ws.length<=3)(h:PW ws l)(L:Lst dP ⟨l,h.pk⟩ Rs M)(h8:Rs.length<=8):M.length<=61:=by
 obtain⟨n0,n1,n2,hn⟩:=Xn hw;refine L.qN uF h8 (n0:=n0) (n1:=n1) (n2:=n2) λm hm n z0 z1 z2=>?_
 exact Xo (G2 h (L.sb m hm)) λz=>by
  rcases hn n z with e|e|e
  .exact z0 e
  .exact z1 e
  .exact z2 e
theorem Lst.perm (h:Lst d held Rs M)(p:M'.Perm M):Lst d held Rs M':=⟨p.nodup_iff.mpr h.nd,λa ha b hb=>h.an a (p.mem_iff.mp ha) b (p.mem_iff.mp hb),λm hm=>h.sb m (p.mem_iff.mp hm),λm hm=>h.al m (p.mem_iff.mp hm),λr h1 h2=>by obtain⟨m,hm,e⟩:=h.cv r h1 h2;exact⟨m,p.mem_iff.mpr hm,e⟩,λm hm=>h.vl m (p.mem_iff.mp hm)⟩
theorem M8 (a b:P):(ov a b).length<=a.length:=by unfold ov;rw[af];exact fu _ _
theorem Xp (c b:Bool):cmpD .NotEq (.str (sd c)) (.str (sd b))=.ok (decide (c≠b)):=by cases c<;>cases b<;>rfl
theorem Xq (h:Κ[k]?=Z9 d)(hi:imm d=Z7):Vv Κ Φ (.glob k x) ρ d:=⟨by rw[VM,h];show(if imm d=Z7 then _ else _)=_;rw[xp hi],hi⟩
theorem zks (hw:ws.length<=3)(hp:∀p∈ps,RW ws p)(hl:ps.length<=8)(hf:PW ws f)(ha:PW ws a)(b:Bool)(ho:PW ws (own b f a)):
  ∃M:List PS,(Lst dP ⟨own b f a,ho.pk⟩ (brs b f a ps) M/\M.length<=61/\Chn M)/\zy [.list (ps.map mr),dJ f a,.str (sd b)]=.ok (.fr,.list (M.map pkS)):=by
 suffices h:∃M:List PS,(Lst dP ⟨own b f a,ho.pk⟩ (brs b f a ps) M/\M.length<=61/\Chn M)/\aI [.int 100] [fT,mE,mG] F0 [Z9 (.od,.list (ps.map mr)),Z9 (.od,dJ f a),Z9 (.od,.str (sd b)),Z8,Z8,Z8]=.ok (.rt .fr (.list (M.map pkS))) by obtain⟨M,h1,h2⟩:=h;exact⟨M,h1,cM h2⟩
 let Κ:List D:=[.int 100]
 let Φ:List Fn:=[fT,mE,mG]
 let held:PS:=⟨own b f a,ho.pk⟩
 let Q:Res Out->Prop:=λz=>∃M:List PS,(Lst dP held (brs b f a ps) M/\M.length<=61/\Chn M)/\z=.ok (.rt .fr (.list (M.map pkS)))
 show Q _;refine aL (cW (d:=pkS held) (bF (aD (aC rfl) (aD (aC rfl) aJ)) rfl (Gr b f a) (fK _))) ?_;refine aL (eC (xs:=[(⟨[],PK.nil⟩:PS)].map pkS) (eS (bB (gB bW) bW)) rfl) ?_
 let cT:List PS->Option GD->Rho:=λM u=>[Z9 (.od,.list (ps.map mr)),Z9 (.od,dJ f a),Z9 (.od,.str (sd b)),Z9 (.al,pkS held),Z9 (.fr,.list (M.map pkS)),u]
 refine q_nm (iO rfl rfl rfl) mI (λpre ρ=>∃M u,ρ=cT M u/\Lst dP held (brs b f a pre) M) ⟨_,Z8,rfl,Lst.start uF λn=>rfl⟩ ?_ ?_
 .rintro pre p post ρ hx ⟨M,u,rfl,L⟩
  have hm:p∈ps:=by rw[hx];exact aq _ ah
  have hr:=hp p hm;have sF:pre.length+1<=8:=by have:=congrArg gq hx;rw[am,a8]at this;omega
  have G3:∀qs:List mJ,(brs b f a qs).length<=qs.length:=λqs=>by unfold brs;rw[af];exact fu _ _
  have p1:∀{M:List PS},Vv Κ Φ (.ix (.var 5) (.int 1)) (cT M (Z9 (.al,mr p))) (.str (sd p.1)):=aZ (aC rfl) aH.e rfl rfl;have p2:∀{M:List PS},Vv Κ Φ (.ix (.var 5) (.int 2)) (cT M (Z9 (.al,mr p))) (pk p.2.2.2):=aZ (aC rfl) aH.e rfl (bI _);have p0:∀{M:List PS},Vv Κ Φ (.ix (.var 5) (.int 0)) (cT M (Z9 (.al,mr p))) (dJ p.2.1 p.2.2.1):=aZ (aC rfl) aH.e rfl (nG _ _);have hc:Tt Κ Φ (.and (.tv (.cmp .NotEq (.ix (.var 5) (.int 1)) (.var 2))) (.tv (.call 0 "within" (.cons (.ix (.var 5) (.int 2)) (.cons (.call 1 "side_of" (.cons (.var 1) (.cons (.ix (.var 5) (.int 1)) .nil))) .nil))))) (cT M (Z9 (.al,mr p))) (zL b f a p):=FU (aO (cJ p1.e (aC rfl) (Xp _ _)).e rfl) λ_=>aO (bF (aD p2.e (aD (bF (aD (aC rfl) (aD p1.e aJ)) rfl (Gr p.1 f a) (bI _)).e aJ)) rfl (pL (vZ hf.pk ha.pk)) rfl).e rfl;have zM:∀{M':List PS},M'.length<=61->aI Κ Φ (.seq (.bP (.tv (.cmp .Gt (.bi "len" (.cons (.var 4) .nil)) (.glob 0 "MOST_REASONS"))) (.seq (.pZ "TooMuch") .nil) .nil) .nil) (cT M' (Z9 (.al,mr p)))=.ok (.nx (cT M' (Z9 (.al,mr p)))):=λ{M'} h61=>by have hg:Tt Κ Φ (.tv (.cmp .Gt (.bi "len" (.cons (.var 4) .nil)) (.glob 0 "MOST_REASONS"))) (cT M' (Z9 (.al,mr p))) false:=aO (cJ (bX (d:=.int ((M'.map pkS).length:Int)) (aD (aC rfl) aJ) rfl rfl).e (Xq rfl rfl).e (by show Res.ok (decide ((100:Int)<((M'.map pkS).length:Int)))=_;rw[af,x4 (by omega)])).e rfl;exact bJ (dV hg (λz=>by cases z) λ_=>cG) cG
  cases hb:zL b f a p with
  |false=>
   have eb:brs b f a (pre++[p])=brs b f a pre:=by unfold brs;rw[uz,mo (by rw[hb];exact c7)];show((pre.filter _)++[]).map _=_;rw[dg]
   have h61:=BL hw ho L (bo (G3 pre) (by omega));exact⟨_,bJ (dV hc (λz=>by rw[hb]at z;cases z) λ_=>cG) (zM h61),M,_,rfl,by rw[eb];exact L⟩
  |true=>
   have hR:PK (own b p.2.1 p.2.2.1):=vZ hr.f.pk hr.a.pk;have eb:brs b f a (pre++[p])=brs b f a pre++[toS (own b p.2.1 p.2.2.1)]:=by unfold brs;rw[uz,mj hb,b7];rfl
   let R:PS:=toS (own b p.2.1 p.2.2.1)
   have eR:=M7 hR;have h61:=BL hw ho L (bo (G3 pre) (by omega));have L2:Lst dP held (brs b f a (pre++[p])) (uD dP fJ hZ M R (ov held.1 R.1)):=by rw[eb];exact Lst.step uG MP uF Xd Xe (λn=>Xf held.2 R.2 n) (Xg held.2) L
   have G4:=BL hw ho L2 (bo (G3 _) (by rw[am];exact sF));have Xr:=G0 M held R (λc h=>by have:=(G2 ho (L.sb c h)).len;omega) h61 (by have:=M8 held.1 R.1;have:=ho.len;exact bo (M8 held.1 R.1) (by show(own b f a).length<=6;omega));refine⟨_,bJ (dV hc (λ_=>bJ (eC (hU (aD (aC rfl) (aD (aC rfl) (aD (bF (aD p0.e (aD (aC rfl) aJ)) rfl (Gr b _ _) (bI _)).e aJ))) rfl ?_) (jF _)) cG) λz=>by rw[hb]at z;cases z) (zM G4),_,_,rfl,L2⟩;rw[<-eR];exact Xr
 .rintro ρ ⟨M,u,rfl,L⟩
  have h61:=BL hw ho L (by unfold brs;rw[af];exact bo (fu _ _) hl)
  have hk:M.length<2\/∀x∈M,x.1≠[]:=by
   by_cases h:M.length<2
   .exact .inl h
   .refine .inr λx hx e=>h ?_;have hz:=λy hy=>L.an x hx y hy λn=>by have:=uF y n;unfold dP at this ⊢;rw[e];exact this
    match M,L.nd,hz with
    | [],_,_=>exact(show 0<2 by decide)
    | [_],_,_=>exact(show 1<2 by decide)
    |y::z::r,nd,hz=>have e1:=hz y (.head _);have e2:=hz z (.tail _ (.head _));exact absurd (e1.symm.trans e2▸List.Mem.head _) (bw.mp nd).1
  refine bT (vS (λi z=>by cases z) (nB (aC rfl) rfl (M6 (by omega) hk) (jF _))) ⟨iA M,⟨L.perm (G1 M),by rw[(G1 M).length_eq];exact h61,M4 M⟩,rfl⟩
theorem Xs (h:∀p∈ps,hX p q=Z6):fc ps q=none:=ML λy hy=>by unfold wG;rw[h y.1 (bx (Gw hy))];rfl
theorem Xu (hp:p∈ps)(h:hX p q=Z7):∃k,fc ps q=Z9 k:=by
 cases e:fc ps q with
 |some k=>exact⟨k,rfl⟩
 |none=>obtain⟨i,hi⟩:=tw hp;have:=pq.mp e (p,i) (ou.mpr hi);unfold wG at this;rw[h]at this;cases this
theorem M9 (p:mJ):hX p (b,f,a,r)=(zL b f a p&&wi r (own b p.2.1 p.2.2.1)):=by obtain⟨c,f',a',r'⟩:=p;cases c<;>cases b<;>rfl
theorem G5 (hp:∀p∈ps,RW ws p)(r:PS):(fc ps (b,f,a,r.1)).isNone=Z7↔∀R∈brs b f a ps,¬leP dP r R:=by
 have hR:∀p∈ps,(toS (own b p.2.1 p.2.2.1)).1=own b p.2.1 p.2.2.1:=λp h=>M7 (vZ (hp p h).f.pk (hp p h).a.pk);constructor
 .intro h R Xv hl;obtain⟨p,sE,rfl⟩:=a6.mp Xv;obtain⟨h1,h2⟩:=ce.mp sE;have hw:=(uG r _).mpr hl;unfold fJ at hw;rw[hR p h1]at hw;obtain⟨k,hk⟩:=Xu h1 (by rw[M9,h2,hw];rfl);rw[hk]at h;cases h
 .intro h;rw[Xs λp Na=>?_]
  .rfl
  .rw[M9];cases e:zL b f a p with
   |false=>rfl
   |true=>
    cases e2:wi r.1 (own b p.2.1 p.2.2.1)with
    |false=>rfl
    |true=>exact absurd ((uG r (toS (own b p.2.1 p.2.2.1))).mp (by unfold fJ;rw[hR p Na];exact e2)) (h _ (a6.mpr ⟨p,ce.mpr ⟨Na,e⟩,rfl⟩))
theorem Xw (h:Ev Κ Φ t ρ (dN o)):Vv Κ Φ (.lO Z6 t) ρ (.bool o.isNone):=by have:=VY (ng:=Z6) h;cases o<;>exact this
theorem G6 (hp:∀p∈ps,RW ws p)(hl:ps.length<=8)(hf:PK f)(ha:PK a)(b:Bool)(r:PS):zB [.list (ps.map mr),dJ f a,.str (sd b),pkS r]=.ok (.fr,.bool (fc ps (b,f,a,r.1)).isNone):=by refine cM ?_;exact cL (dH (Xw (vM (aD (aC rfl) (aD (gB (bB (v_var rfl (nG f a)) (bB (v_var rfl rfl) (bB (v_var rfl (bI _)) bW)))).e aJ)) rfl (WV (q:=(b,f,a,r.1)) (λp h=>(hp p h).gr) ⟨hf,ha,r.2⟩ (by omega)))))
def lo1 (x:Str×Int):P:=if x.2=1 then[]else[(x.1,x.2-1)]
theorem Nb (h:PK (pre++x::post)):PK (pre++lo1 x++post):=by
 have hx:=h.pos x (aq _ (.head _));refine⟨?_,λp hp=>?_⟩
 .rw[BB];have hs:=BB.mp h.sd;refine List.Pairwise.sublist ?_ hs;show(lx (λp:Str×Int=>p.1) _).Sublist (lx (λp:Str×Int=>p.1) _);rw[b7,b7,b7,du];refine List.Sublist.append (List.Sublist.refl _) ?_;unfold lo1;split
  .exact List.sublist_cons_self _ _
  .exact List.Sublist.refl _
 .rcases cf.mp hp with hp|hp
  .rcases cf.mp hp with hp|hp
   .exact h.pos p (cx _ hp)
   .unfold lo1 at hp;split at hp
    .cases hp
    .rw[ay.mp hp];show 0<x.2-1;omega
  .exact h.pos p (aq _ (.tail _ hp))
theorem Xx (h:PK (pre++x::post)):leP dP ⟨_,Nb h⟩ ⟨_,h⟩:=(uG _ _).mp (by
 show(List.filter _ _).isEmpty=Z7;rw[jf,gc];intro p hp;rw[decide_eq_true_iff];rcases cf.mp hp with hp|hp
 .rcases cf.mp hp with hp|hp
  .rw[h.aK (cx _ hp)];omega
  .unfold lo1 at hp;split at hp
   .cases hp
   .rw[ay.mp hp];rw[h.aK (aq _ (.head _))];omega
 .rw[h.aK (aq _ (.tail _ hp))];omega)
theorem Xy:pre++lo1 x++post≠pre++x::post:=λe=>by
 rw[du]at e;have e:=List.append_cancel_left e;unfold lo1 at e;split at e
 .have :=congrArg gq e;rw[am,a8,List.length_nil]at this;omega
 .have e:=congrArg wb (List.cons.inj e).1
  dsimp only at e;omega
theorem Xz {α:Type}(xs:List α)(h:t<=xs.length):cut xs (Z9 (t:Int)) Z8=xs.drop t:=by show List.take (xs.length-min t xs.length) (xs.drop (min t xs.length))=_;rw[l7 h,jc (by rw[jd];exact ar _)]
theorem BM (h:a.length+b.length<=1000):cB .Add (pk a) (pk b)=.ok (pk (a++b)):=by show(if(a.map pr).length+(b.map pr).length<=aU then _ else _)=_;rw[xp (by rw[af,af];unfold aU;omega)];unfold pk;rw[b7]
theorem XB:oA (pk (pre++x::post)) Z8 (Z9 (pre.length:Int))=.ok (pk pre):=by
 show(if _ then _ else Res.ok (PyData.tuple (cut ((pre++x::post).map pr) Z8 (Z9 (pre.length:Int)))))=_;have hl:((pre++x::post).map pr).length=pre.length+(post.length+1):=by rw[af,am,a8]
 rw[xq (λz=>?_),WW _ (by rw[hl];omega),<-List.map_take,List.take_left' rfl]
 .rfl
 .have :=z.2;rw[uA (by omega),hl]at this;omega
theorem XD:oA (pk (pre++x::post)) (Z9 ((pre.length:Int)+1)) Z8=.ok (pk post):=by
 show(if _ then _ else Res.ok (PyData.tuple (cut ((pre++x::post).map pr) (Z9 ((pre.length:Int)+1)) Z8)))=_;have hl:((pre++x::post).map pr).length=pre.length+(post.length+1):=by rw[af,am,a8]
 rw[xq (λz=>?_),show((pre.length:Int)+1)=((pre.length+1:Nat):Int)from rfl,Xz _ (by rw[hl];omega),<-List.map_drop,show pre++x::post=(pre++[x])++post by rw[du];rfl,List.drop_left' (by rw[am];rfl)]
 .rfl
 .have :=z.1;rw[uA (by omega),hl]at this;omega
theorem XE:iJ (pk (pre++x::post)) (.int (pre.length:Int))=.ok (pr x):=by show Res.eE (cY ((pre++x::post).map pr) (pre.length:Int))=_;unfold cY iT;rw[xp (by omega),xp (by rw[af,am,a8];omega)];show Res.eE ((((pre++x::post).map pr))[((pre.length:Int)).toNat]?)=_;rw[ik,bt,fy (ar _),wc];rfl
theorem XF (hl:(pre++x::post).length<=100):Br [pk (pre++x::post),.int (pre.length:Int)]=.ok (.fr,pk (pre++lo1 x++post)):=by
 refine cM ?_
 let Q:Res Out->Prop:=λz=>z=.ok (.rt .fr (pk (pre++lo1 x++post)))
 show Q _;rw[am,a8]at hl
 let ρ:Rho:=[Z9 (.od,pk (pre++x::post)),Z9 (.od,.int (pre.length:Int)),Z9 (.al,.str x.1),Z9 (.al,.int x.2)]
 refine aL (MM (aZ (aC rfl) (aC rfl) XE rfl).1 rfl) ?_;have ht:Vv [] [] (.sl (.var 0) .nil (.tv (.var 1))) ρ (pk pre):=zh (aC rfl) mT (jE (aC rfl)) XB (bI _);have hd:Vv [] [] (.sl (.var 0) (.tv (.bin .Add (.var 1) (.int 1))) .nil) ρ (pk post):=zh (aC rfl) (jE (aT (d:=.int ((pre.length:Int)+1)) (aC rfl) aH.e rfl rfl).e) mT XD (bI _);have hc:Tt [] [] (.tv (.cmp .Eq (.var 3) (.int 1))) ρ (decide (x.2=1)):=Mo (aC rfl);by_cases h:x.2=1
 .have e:pre++lo1 x++post=pre++post:=by unfold lo1;rw[xp h,dg]
  exact bT (dV hc (λ_=>cL (dH (aT ht.e hd.e (BM (by omega)) (bI _)))) λz=>absurd h (xw z)) (by rw[<-e])
 .refine kL hc (x4 h) ?_;have e:pre++lo1 x++post=pre++[(x.1,x.2-1)]++post:=by unfold lo1;rw[xq h]
  exact bT (dH (aT (aT ht.e (gB (bB (gB (bB (v_var rfl rfl) (bB (aT (aC rfl) aH.e rfl rfl) bW))) bW)).e (BM (b:=[(x.1,x.2-1)]) (by show pre.length+1<=1000;omega)) (bI _)).e hd.e (BM (by rw[am];show pre.length+1+post.length<=1000;omega)) (bI _))) (by rw[<-e])
theorem XG (ha:PK a):srt a=a:=by
 have mm:∀p,p∈srt a↔p∈a:=λp=>(Bc a).mem_iff;have hs:PK (srt a):=⟨Bd ha.nd,λp hp=>ha.pos p ((mm p).mp hp)⟩;refine PK.ext hs ha λn=>?_;by_cases h:n∈ks a
 .obtain⟨p,hp,rfl⟩:=a6.mp h;rw[ha.aK hp,hs.aK ((mm p).mpr hp)]
 .have h2:n∉ks (srt a):=fun z=>by
   obtain⟨p,hp,e⟩:=a6.mp z;exact h (a6.mpr ⟨p,(mm p).mp hp,e⟩)
  have:=ha.bN n;have:=hs.bN n;have:¬0<look a n:=λz=>h (ha.key.mpr z);have:¬0<look (srt a) n:=λz=>h2 (hs.key.mpr z);omega
theorem Nc:∀{ws acc:List Str},(acc++ws).Nodup->eJ acc ws=acc++ws
 | [],acc,_=>(dg acc).symm
 |z::ws,acc,h=>by
  have hz:=λy=>by have:=il.mp h;exact this.2.2 z y z ah rfl
  show eJ (if z∈acc then acc else acc++[z]) ws=_;rw[xq hz,Nc (by rw[du];exact h),du];rfl
theorem XH (ha:PK a)(hl:a.length<64):uU (.list (a.map λp=>.str p.1))=.ok (.int (a.length:Int)):=by
 have e:(a.map λp=>Z2 p.1)=(ks a).map .str:=by unfold ks;rw[gb];rfl
 have el:(ks a).length=a.length:=af ..;rw[e];show(if rS ((ks a).map .str)=Z7 then Res.ok (Z0 (((ks a).map Z2).length:Int))else qB ((ks a).map .str))=_;split
 .rw[af,el]
 show(match dI ((ks a).map .str)with|some ws=>if decide (ws.length<4000)=Z7 then Res.ok (Z0 ((eJ [] ws).length:Int))else .no|none=>.no)=_;rw[FN];show(if decide ((ks a).length<4000)=Z7 then Res.ok (Z0 ((eJ [] (ks a)).length:Int))else .no)=_;have eo:eJ [] (ks a)=ks a:=Nc ha.nd;rw[xp (xz (by omega)),eo,el]
theorem XI (l:P):cmpD .NotEq (pk l) (pk l)=.ok false:=by show(if shal 40 (pk l)&&shal 40 (pk l)then Res.ok (!aY (pk l) (pk l))else .no)=_;rw[pD 38,Bb];rfl
theorem Nd (ha:Ev Κ Φ a ρ x)(h:uU x=.ok d)(hi:imm d=Z7):Vv Κ Φ (.lset a) ρ d:=by obtain⟨g,ha⟩:=ha;refine⟨?_,hi⟩;show(aG Κ Φ a ρ>>=λx=>uU x.2>>=λd=>Res.ok (G.fr,d))=_;rw[ha,Res.aB];rw[h];rfl
theorem XJ (ha:PK a)(ho:PK o)(hw:wi a o=Z7)(hl:a.length<64):Gf [pk a,pk o]=.ok (.fr,.bool Z7):=by
 refine cM ?_
 let Q:Res Out->Prop:=λz=>z=.ok (.rt .fr (.bool Z7))
 show Q _;have so:aggD "sorted" Z6 (a.map pr)=.ok (.list (a.map pr)):=by show(if((Z6||imms (a.map pr))&&kQ (a.map pr)&&decide ((a.map pr).length<64))=Z7 then Res.ok (Z1 (z1b (a.map pr)))else .no)=_;rw[zE qT a,Vq,Fw,XG ha,af,xz hl];rfl
 refine kL (hW (jY (aO (FT (aC rfl)).e rfl)) λ_=>hW (aO (cJ (aC rfl) (vR (Ev.of (nB (v_var rfl (bI a)).e rfl so (zE qT _))) rfl rfl (bI _)).e (XI a)).e rfl) λ_=>jY (aO (bF (aD (aC rfl) (aD (aC rfl) aJ)) rfl (BD ho) rfl).e rfl)) (by rw[hw];rfl) ?_;refine q_nm (zi rfl (by decide) (bI a) rfl) qT (λ_ ρ=>∃u1,ρ=[Z9 (.od,pk a),Z9 (.od,pk o),u1]) ⟨Z8,rfl⟩ ?_ ?_
 .rintro pre x post ρ hx ⟨u1,rfl⟩
  have hp:=ha.pos x (by rw[hx];exact aq _ ah);have vx:Vv [] [vX,pK] (.ix (.var 2) (.int 1)) [Z9 (.od,pk a),Z9 (.od,pk o),Z9 (.al,pr x)] (.int x.2):=aZ (aC rfl) aH.e rfl rfl;refine kL (k:=Z6||(Z6||(Z6||decide (x.2<1)))) (hW (jY (aO (FT (x:=pr x) (aC rfl)).e rfl)) λ_=>hW (aO (cJ (bX (aD (aC rfl) aJ) rfl rfl).e aH.e rfl).e rfl) λ_=>hW (jY (aO (bF (aD vx.e aJ) rfl (W5 x.2) rfl).e rfl)) λ_=>aO (cJ vx.e aH.e rfl).e rfl) (by rw[x4 (by omega)];rfl) ?_;exact nH ⟨_,rfl⟩
 .rintro ρ ⟨u1,rfl⟩
  have hc:=z1e (Κ:=[]) (Φ:=[vX,pK]) (ρ:=[Z9 (.od,pk a),Z9 (.od,pk o),u1]) (nt:=1) (js:=[]) (N':=["_law_pair"]) (tg:=.nm 0) (it:=.tv (.var 0)) (elt:=.ix (.var 0) (.int 0)) (λ_=>Z7) (λp=>.str p.1) (cE (v_var rfl (bI a)).1 rfl) rfl (λp=>[Z9 (.al,pr p)]) (λp _=>kZ (qT p)) (λp _=>tO) λp _ _=>aZ (aC rfl) aH.e rfl rfl;rw[im.mpr λ_ _=>rfl]at hc;have GC:gO "len" [pk a]=.ok (.int (a.length:Int)):=by show Res.ok (Z0 ((a.map pr).length:Int))=_;rw[af]
  exact bT (dH (cJ (bX (aD (aC rfl) aJ) GC rfl).e (Nd (Ev.of hc) (XH ha hl) rfl).e (by show Res.ok (aY (.int _) (.int _))=_;rw[mY,xz rfl]))) rfl
theorem G7:∀l:List PS,ZW (l.map pkS) (l.map pkS)=Z7
 | []=>rfl
 |x::l=>by show(aY (pkS x) (pkS x)&&ZW (l.map pkS) (l.map pkS))=Z7;rw[G7 l,BK,xz rfl];rfl
theorem G8 (l:List PS):cQ 39 (l.map pkS)=true:=jJ.mpr λz hz=>by obtain⟨p,_,rfl⟩:=a6.mp hz;exact pD 37 _
theorem G9 (l:List PS):cmpD .Eq (.list (l.map pkS)) (.list (l.map pkS))=.ok true:=by show(if(cQ 39 (l.map pkS)&&cQ 39 (l.map pkS))=Z7 then Res.ok (ZW (l.map pkS) (l.map pkS))else .no)=_;rw[G8,G7];rfl
theorem XM (l:List PS):cmpD .NotEq (.list (l.map pkS)) (.list (l.map pkS))=.ok false:=by show(if(cQ 39 (l.map pkS)&&cQ 39 (l.map pkS))=Z7 then Res.ok (!ZW (l.map pkS) (l.map pkS))else .no)=_;rw[G8,G7];rfl
theorem Nf:∀{l:List PS},l.Nodup->jM (l.map pkS)=Z7
 | [],_=>rfl
 |x::l,h=>by obtain⟨h1,h2⟩:=bw.mp h;show(((l.map pkS).all λy=>!aY (pkS x) y&& !aY y (pkS x))&&jM (l.map pkS))=Z7;rw[Nf h2,um,a9];intro d hd;obtain⟨y,hy,rfl⟩:=a6.mp hd;have hn:x≠y:=λe=>h1 (e▸hy);rw[BK,BK,x4 hn,x4 hn.symm];rfl
theorem XN {l:List PS}(nd:l.Nodup)(h:l.length<=61):uU (.list (l.map pkS))=.ok (.int (l.length:Int)):=by
 have e:rS (l.map pkS)=true:=by
  show(decide ((l.map pkS).length<=61)&&(((l.map pkS).all λx=>oB x&&shal 8 x)&&jM (l.map pkS)))=Z7;rw[af,xz h,Nf nd,Bool.true_and,um,a9];intro d hd;obtain⟨y,_,rfl⟩:=a6.mp hd;have e:oB (pkS y)=true:=by refine a9.mpr λd hd=>?_;obtain⟨q,_,rfl⟩:=a6.mp hd;rfl
  show(oB (pkS y)&&shal 8 (pk y.1))=Z7;rw[pD 6,e];rfl
 show(if rS (l.map pkS)=Z7 then Res.ok (Z0 ((l.map pkS).length:Int))else qB (l.map pkS))=_;rw[xp e,af]
theorem XO (L:Lst dP held Rs M):M.length<2\/∀x∈M,x.1≠[]:=by
 by_cases h:M.length<2
 .exact .inl h
 .refine .inr λx hx e=>h ?_;have hz:=λy hy=>L.an x hx y hy λn=>by have:=uF y n;unfold dP at this ⊢;rw[e];exact this
  match M,L.nd,hz with
  | [],_,_=>exact(show 0<2 by decide)
  | [_],_,_=>exact(show 1<2 by decide)
  |y::z::r,nd,hz=>have e1:=hz y (.head _);have e2:=hz z (.tail _ (.head _));exact absurd (e1.symm.trans e2▸List.Mem.head _) (bw.mp nd).1
theorem XQ (b:Bool)(hk:Φ[k]?=Z9 qV)(hi:ρ[i]?=Z9 (Z9 (g,dJ f a)))(hj:ρ[j]?=Z9 (Z9 (g',.str (sd b)))):Vv [] Φ (.ix (.var i) (.call k "_law_at" (.cons (.var j) .nil))) ρ (pk (own b f a)):=aZ (aC hi) (bF (aD (aC hj) aJ) hk (BE b) rfl).e (zK b f a) (bI _)
theorem z7l (hw:ws.length<=3)(hp:∀p∈ps,RW ws p)(hl:ps.length<=8)(hf:PW ws f)(ha:PW ws a)(b:Bool)(ho:PW ws (own b f a))(L:Lst dP ⟨own b f a,ho.pk⟩ (brs b f a ps) M)(h61:M.length<=61)(hc:Chn M):
  Bt [.list (M.map pkS),.list (ps.map mr),dJ f a,.str (sd b)]=.ok (.fr,.bool Z7):=by
 refine cM ?_
 let Q:Res Out->Prop:=λz=>z=.ok (.rt .fr (.bool Z7))
 show Q _
 let cT:Option GD->Option GD->Rho:=λu v=>[Z9 (.od,.list (M.map pkS)),Z9 (.od,.list (ps.map mr)),Z9 (.od,dJ f a),Z9 (.od,.str (sd b)),u,v]
 refine q_nm (iO rfl rfl rfl) fK (λ_ ρ=>∃u v,ρ=cT u v) ⟨Z8,Z8,rfl⟩ ?_ ?_
 .rintro pre m post ρ hx ⟨u,v,rfl⟩
  have hm:m∈M:=by rw[hx];exact aq _ ah
  have XS:=G2 ho (L.sb m hm);have YY:=XS.len;have al:=(G5 hp m).mpr (L.al m hm);refine kL (k:=(!true)|| !(fc ps (b,f,a,m.1)).isNone) (hW (jY (aO (bF (aD (aC rfl) (aD (XQ b rfl rfl rfl).e aJ)) rfl (XJ m.2 ho.pk ((uG m ⟨_,ho.pk⟩).mpr (L.sb m hm)) (by omega)) rfl).e rfl)) λ_=>jY (aO (bF (aD (aC rfl) (aD (aC rfl) (aD (aC rfl) (aD (aC rfl) aJ)))) rfl (G6 hp hl hf.pk ha.pk b m) rfl).e rfl)) (by rw[al];rfl) ?_;refine q_nm (m:=λi:(Str×Int)×Nat=>Z0 (i.2:Int)) (xs:=m.1.zipIdx) (g:=.fr) (ρ1:=cT (Z9 (.al,pkS m)) v) ?_ (λ_=>rfl) (λ_ ρ=>∃v,ρ=cT (Z9 (.al,pkS m)) v) ⟨v,rfl⟩ ?_ ?_
  .rw[MK];refine zj (aD (bX (aD (aC rfl) aJ) (by show Res.ok (Z0 ((m.1.map pr).length:Int))=_;rw[af]) rfl).e aJ) ?_;rw[zb (by omega) (by omega),ik]
  .rintro fC x zN ρ hx ⟨v,rfl⟩
   have Ng:=Gw (by rw[hx];exact aq _ ah);obtain⟨lp,ls,e1,e2⟩:∃lp ls,m.1=lp++x.1::ls/\lp.length=x.2:=by have eB:=(bc.mp Ng).1;refine⟨m.1.take x.2,m.1.drop (x.2+1),?_,by rw[f8];omega⟩;have h1:=nr x.2 m.1;rw[ip eB,(bc.mp Ng).2]at h1;exact h1.symm
   have zO:=e1▸m.2
   let r:PS:=⟨_,Nb zO⟩
   have hle:leP dP r m:=by have:=Xx zO;intro n;have:=this n;unfold dP at this ⊢;rw[e1];exact this
   have XT:(fc ps (b,f,a,r.1)).isNone=false:=by
    cases e:(fc ps (b,f,a,r.1)).isNone with
    |false=>rfl
    |true=>have XU:=(G5 hp r).mp e;obtain⟨m',yt,uL⟩:=L.cv r (hle.trans (L.sb m hm)) XU;have:=L.an m' yt m hm (uL.trans hle);subst this;have e3:=MP _ _ λn=>Int.le_antisymm (hle n) (uL n);exact absurd ((congrArg Subtype.val e3).trans e1) Xy
   have XW:Br [pkS m,.int (x.2:Int)]=.ok (.fr,pkS r):=by have:=XF (by rw[<-e1];omega);rw[e2,<-e1]at this;exact this
   refine kL (aO (bF (aD (aC rfl) (aD (aC rfl) (aD (aC rfl) (aD (bF (aD (aC rfl) (aD (aC rfl) aJ)) rfl XW (fK r)).e aJ)))) rfl (G6 hp hl hf.pk ha.pk b r) rfl).e rfl) XT ?_;exact nH ⟨_,rfl⟩
  .rintro ρ ⟨v,rfl⟩
   exact nH ⟨_,_,rfl⟩
 .rintro ρ ⟨u,v,rfl⟩
  have hs:=M6 (by omega) (XO L);rw[M5 M hc]at hs;exact bT (dH (cJ (aC rfl) (Ev.of (nB (aC rfl) rfl hs (jF _))) (G9 M))) rfl
def iE (G:List P)(w:Str)(A:List Int):List P:=G.flatMap λg=>A.map λv=>if v=0 then g else g++[(w,v)]
theorem Ha (w:Str)(A:List Int):∀G:List P,(iE G w A).length=G.length*A.length
 | []=>by unfold iE;simp
 |g::G=>by have:=Ha w A G;unfold iE at this ⊢;rw[nh,am,this,af,a8,wv];omega
theorem XX {G:List P}(hg:∀g∈G,g.length<=10)(hl:G.length*A.length<=900):zC [.list (G.map pk),.str w,.list (A.map .int)]=.ok (.fr,.list ((iE G w A).map pk)):=by
 refine cM ?_
 let Q:Res Out->Prop:=λz=>z=.ok (.rt .fr (.list ((iE G w A).map pk)))
 show Q _
 let st:P->Int->P:=λg v=>if v=0 then g else g++[(w,v)]
 let cT:List P->Option GD->Option GD->Rho:=λR u v=>[Z9 (.od,.list (G.map pk)),Z9 (.od,.str w),Z9 (.od,.list (A.map .int)),Z9 (.fr,.list (R.map pk)),u,v]
 refine aL (eC (eS bW) rfl) ?_;refine q_nm (iO rfl rfl rfl) bI (λpre ρ=>∃u v,ρ=cT (iE pre w A) u v) ⟨Z8,Z8,rfl⟩ ?_ ?_
 .rintro pre g post ρ hx ⟨u,v,rfl⟩
  have hm:g∈G:=by rw[hx];exact aq _ ah
  have jZ:pre.length*A.length+A.length<=900:=by have e:=congrArg gq hx;rw[am,a8]at e;have:(pre.length+1)*A.length<=G.length*A.length:=Nat.mul_le_mul_right _ (by omega);rw[wv]at this;omega
  refine q_nm (ρ1:=cT (iE pre w A) (Z9 (.al,pk g)) v) (iO rfl rfl rfl) (λ_=>rfl) (λfC ρ=>∃v,ρ=cT (iE pre w A++fC.map (st g)) (Z9 (.al,pk g)) v) ⟨v,by rw[List.map_nil,dg]⟩ ?_ ?_
  .rintro fC x zN ρ qG ⟨v,rfl⟩
   have Nh:fC.length<A.length:=by have e:=congrArg gq qG;rw[am,a8]at e;omega
   have eB:((iE pre w A++fC.map (st g)).map pk).length<1000:=by rw[af,am,Ha,af];omega
   have ht:Tt [] [] (.tv (.cmp .Eq (.var 5) (.int 0))) (cT (iE pre w A++fC.map (st g)) (Z9 (.al,pk g)) (Z9 (.al,.int x))) (decide (x=0)):=Mo (aC rfl);have fin:∀{z:D},z=pk (st g x)->((cT (iE pre w A++fC.map (st g)) (Z9 (.al,pk g)) (Z9 (.al,.int x))).set 3 (Z9 (.fr,.list ((iE pre w A++fC.map (st g)).map pk++[z])))).map dW=cT (iE pre w A++(fC++[x]).map (st g)) (Z9 (.al,pk g)) (Z9 (.al,.int x)):=λ{z} hz=>by show[_,_,_,Z9 (Mi.G.fr,Z1 _),dW (Z9 (.al,pk g)),_]=[_,_,_,Z9 (Mi.G.fr,Z1 _),_,_];rw[Gv (bI g),b7 (l₁:=fC),<-du,b7 (l₁:=iE pre w A++_),hz];rfl
   by_cases hz:x=0
   .exact⟨_,bJ (dV ht (λ_=>bJ (pG (v_var rfl (bI g)) rfl eB) cG) λz=>absurd hz (xw z)) cG,_,fin (by show pk g=pk (if x=0 then g else g++[(w,x)]);rw[xp hz])⟩
   .exact⟨_,bJ (dV ht (λz=>absurd (xv z) hz) λ_=>bJ (pG (x:=pk (g++[(w,x)])) (aT (aC rfl) (gB (bB (gB (bB (v_var rfl rfl) (bB (v_var rfl rfl) bW))) bW)).e (BM (b:=[(w,x)]) (by have:=hg g hm;show g.length+1<=1000;omega)) (bI _)) rfl eB) cG) cG,_,fin (by show pk _=pk (if x=0 then g else g++[(w,x)]);rw[xq hz])⟩
  .rintro ρ ⟨v,rfl⟩
   refine nH ⟨Z9 (.al,pk g),v,?_⟩;unfold iE;rw[uc,rm]
 .rintro ρ ⟨u,v,rfl⟩
  exact bT (z3o rfl) rfl
theorem XY (v:Int)(A:List Int):∃k,cmpD .NotIn (.int v) (.list (A.map .int))=.ok k:=by
 have h:cQ 40 (A.map .int)=true:=jJ.mpr λz hz=>by obtain⟨p,_,rfl⟩:=a6.mp hz;rfl
 refine⟨!((A.map Z0).any λy=>aY y (.int v)),?_⟩;show((if(shal 40 (.int v)&&cQ 40 (A.map .int))=Z7 then Res.ok ((A.map Z0).any λy=>aY y (.int v))else .no)>>=λk=>Res.ok (!k))=_;rw[h];rfl
structure dE (pre g:P):Prop where
 sd:Sd g
 wn:∀p∈g,∃q∈pre,q.1=p.1/\0<p.2/\p.2<=q.2
theorem dE.len (h:dE pre g):g.length<=pre.length:=by
 have:=y8 (Fy h.sd) λn hn=>by obtain⟨p,hp,rfl⟩:=a6.mp hn;obtain⟨q,hq,e,_⟩:=h.wn p hp;exact a6.mpr ⟨q,hq,e⟩
 unfold ks at this;rw[af,af]at this;exact this
theorem dE.mono (h:dE pre g):dE (pre++[x]) g:=⟨h.sd,λp hp=>by obtain⟨q,hq,e⟩:=h.wn p hp;exact⟨q,cx _ hq,e⟩⟩
theorem dE.snoc (hs:Sd (pre++x::post))(h:dE pre g)(v0:0<v)(v1:v<=x.2):dE (pre++[x]) (g++[(x.1,v)]):=⟨by
 refine jy.mpr ⟨h.sd,gy _ _,λp hp q hq=>?_⟩;rw[ay.mp hq];obtain⟨y,hy,e,_⟩:=h.wn p hp;have:=(jy.mp hs).2.2 y hy x (.head _);rw[<-e];exact this,λp hp=>by
 rcases cf.mp hp with hp|hp
 .obtain⟨q,hq,e⟩:=h.wn p hp;exact⟨q,cx _ hq,e⟩
 .rw[ay.mp hp];exact⟨x,aq _ (.head _),rfl,v0,v1⟩⟩
theorem dE.pk (ho:PK o)(h:dE o g):PK g:=⟨h.sd,λp hp=>by obtain⟨q,_,_,h1,_⟩:=h.wn p hp;exact h1⟩
theorem dE.le (ho:PK o)(h:dE o g):leP dP ⟨g,h.pk ho⟩ ⟨o,ho⟩:=(uG _ _).mp (by show(List.filter _ _).isEmpty=Z7;rw[jf,gc];intro p hp;obtain⟨q,hq,e,_,h2⟩:=h.wn p hp;rw[decide_eq_true_iff,<-e,ho.aK hq];omega)
theorem XZ (hw:ws.length<=3){ps:List mJ}(hp:∀p∈ps,RW ws p)(hl:ps.length<=8)(ho:PW ws o)(b:Bool):∃G:List PS,(∀g∈G,leP dP g ⟨o,ho.pk⟩)/\Bu [.list (ps.map mr),pk o,.int (if b then 0 else 1)]=.ok (.fr,.list (G.map pkS)):=by
 suffices h:∃G:List P,(∀g∈G,dE o g)/\aI [] [zC,tV] Gg [Z9 (.od,.list (ps.map mr)),Z9 (.od,pk o),Z9 (.od,.int (if b then 0 else 1)),Z8,Z8,Z8,Z8,Z8,Z8]=.ok (.rt .fr (.list (G.map pk))) by
  obtain⟨G,h1,h2⟩:=h;refine⟨G.attachWith PK λg hg=>(h1 g hg).pk ho.pk,λg hg=>?_,?_⟩
  .have :=h1 g.1 ((List.mem_attachWith ..).mp hg);exact this.le ho.pk
  .have e:(G.attachWith PK fun g hg=>(h1 g hg).pk ho.pk).map pkS=G.map pk:=by
    rw[show pkS=pk∘Subtype.val from rfl,<-gb,List.attachWith_map_subtype_val]
   rw[e];exact cM h2
 let Φ:List Fn:=[zC,tV]
 let Q:Res Out->Prop:=λz=>∃G:List P,(∀g∈G,dE o g)/\z=.ok (.rt .fr (.list (G.map pk)))
 show Q _;have oW:=ho.len
 let cT:List P->Option GD->Option GD->Option GD->Option GD->Option GD->Rho:=λR a b' c d e=>[Z9 (.od,.list (ps.map mr)),Z9 (.od,pk o),Z9 (.od,.int (if b then 0 else 1)),Z9 (.fr,.list (R.map pk)),a,b',c,d,e]
 refine aL (eC (eS (bB (gB bW) bW)) rfl) ?_;refine zkr (zi rfl (by decide) (bI o) rfl) (λpre ρ=>∃G c d e u v,ρ=cT G c d e u v/\(∀g∈G,dE pre g)/\G.length<=9 ^ pre.length) ⟨[[]],Z8,Z8,Z8,Z8,Z8,rfl,λg hg=>by rw[ay.mp hg];exact⟨List.Pairwise.nil,λ_ h=>by cases h⟩,ar _⟩ ?_ ?_
 .rintro pre x post ρ hx ⟨G,c,d,e,u,v,rfl,hG,X0⟩
  have jZ:pre.length+1<=3:=by have:=congrArg gq hx;rw[am,a8]at this;omega
  have BJ:=ho.pk.pos x (by rw[hx];exact aq _ ah);have YZ:9 ^ (pre.length+1)<=9 ^ 3:=tq (by decide) jZ
  let Q2:Res Out->Prop:=λz=>∃G' c d e u v,z=.ok (.nx (cT G' c d e u v))/\(∀g∈G',dE (pre++[x]) g)/\G'.length<=9 ^ (pre++[x]).length
  have key:Q2 (aI [] Φ (.seq (.asg (.nm 6) (.lst (.cons (.int 0) .nil))) (.seq (.aX (.nm 7) (.tv (.var 0)) (.seq (.asg (.nm 8) (.bin .Add (.call 1 "_law_amount" (.cons (.ix (.ix (.var 7) (.int 0)) (.var 2)) (.cons (.var 4) .nil))) (.int 1))) (.seq (.bP (.and (.tv (.cmp .LtE (.var 8) (.var 5))) (.tv (.cmp .NotIn (.var 8) (.var 6)))) (.seq (.mut "append" 6 (.cons (.var 8) .nil)) .nil) .nil) .nil))) (.seq (.asg (.nm 3) (.call 0 "_law_wider" (.cons (.var 3) (.cons (.var 4) (.cons (.var 6) .nil))))) .nil))) (cT G (Z9 (.al,.str x.1)) (Z9 (.al,.int x.2)) e u v)):=by
   let ρ1:List Int->Option GD->Option GD->Rho:=λA u v=>cT G (Z9 (.al,.str x.1)) (Z9 (.al,.int x.2)) (Z9 (.fr,.list (A.map .int))) u v
   refine aL (eC (eS (bB aH bW)) rfl) ?_;refine q_nm (iO rfl rfl rfl) mI (λBN ρ=>∃A u v,ρ=ρ1 A u v/\A.length<=BN.length+1/\∀y∈A,0<=y/\y<=x.2) ⟨[0],u,v,rfl,ar _,λy hy=>by rw[ay.mp hy];exact⟨ki _,by omega⟩⟩ ?_ ?_
   .rintro BN p po ρ qG ⟨A,u,v,rfl,hA,hy⟩
    have hm:p∈ps:=by rw[qG];exact aq _ ah
    have hr:=hp p hm;have Y0:BN.length+1<=8:=by have:=congrArg gq qG;rw[am,a8]at this;omega
    have zO:PK (own b p.2.1 p.2.2.1):=vZ hr.f.pk hr.a.pk;have Y1:=zO.bN x.1
    let n:Int:=look (own b p.2.1 p.2.2.1) x.1+1
    refine aL (ρ':=ρ1 A (Z9 (.al,mr p)) (Z9 (.al,.int n))) (cW (aT (bF (aD (aZ (aZ (aC rfl) aH.e rfl (nG _ _)).e (aC rfl) (zK b _ _) (bI _)).e (aD (aC rfl) aJ)) rfl (MI zO x.1) rfl).e aH.e rfl rfl)) ?_;obtain⟨k,hk⟩:=XY n A;have ht:Tt [] Φ (.and (.tv (.cmp .LtE (.var 8) (.var 5))) (.tv (.cmp .NotIn (.var 8) (.var 6)))) (ρ1 A (Z9 (.al,mr p)) (Z9 (.al,.int n))) (decide (n<=x.2)&&k):=FU (aO (cJ (aC rfl) (aC rfl) rfl).e rfl) λ_=>aO (cJ (aC rfl) (aC rfl) hk).e rfl;cases hc:(decide (n<=x.2)&&k)with
    |false=>exact⟨_,bJ (dV ht (λz=>by rw[hc]at z;cases z) λ_=>cG) cG,A,_,_,rfl,by rw[am];omega,hy⟩
    |true=>
     have hn:=xv (b6.mp hc).1;refine⟨_,bJ (dV ht (λ_=>bJ (pG (v_var rfl rfl) rfl (by rw[af];omega)) cG) λz=>by rw[hc]at z;cases z) cG,A++[n],Z9 (.al,mr p),Z9 (.al,.int n),?_,?_,?_⟩
     .show[_,_,_,_,_,_,Z9 (Mi.G.fr,Z1 (A.map .int++[.int n])),dW (Z9 (.al,mr p)),_]=[_,_,_,_,_,_,Z9 (Mi.G.fr,Z1 ((A++[n]).map .int)),_,_];rw[Gv (mI p),b7];rfl
     .rw[am,am];show A.length+1<=BN.length+1+1;omega
     .intro y X1;rcases cf.mp X1 with z|z
      .exact hy y z
      .rw[ay.mp z];exact⟨by show 0<=look (own b p.2.1 p.2.2.1) x.1+1;omega,hn⟩
   .rintro ρ ⟨A,u,v,rfl,hA,hy⟩
    have X2:A.length<=9:=by omega
    have X3:=Nat.mul_le_mul X0 X2;refine aL (ρ':=cT (iE G x.1 A) (Z9 (.al,.str x.1)) (Z9 (.al,.int x.2)) (Z9 (.fr,.list (A.map .int))) u v) (eC (hU (aD (aC rfl) (aD (aC rfl) (aD (aC rfl) aJ))) rfl (XX (λg hg=>by have:=(hG g hg).len;omega) (by omega))) (zE bI _)) ⟨_,_,_,_,_,_,cG,?_,?_⟩
    .intro g hg;obtain⟨g0,Ni,hg⟩:=ke.mp hg;obtain⟨y,X4,rfl⟩:=a6.mp hg;obtain⟨y0,y1⟩:=hy y X4;split
     .exact(hG g0 Ni).mono
     .exact(hG g0 Ni).snoc (hx▸ho.pk.sd) (by omega) y1
    .rw[Ha,am];show _<=9 ^ (pre.length+1);rw[v6];exact X3
  obtain⟨G',c',d',e',u',v',h1,h2,h3⟩:=key;exact⟨_,_,GH x,h1,G',c',d',e',u',v',rfl,h2,h3⟩
 .rintro ρ ⟨G,c,d,e,u,v,rfl,hG,_⟩
  exact bT (z3o rfl) ⟨G,hG,rfl⟩
theorem z85 (hw:ws.length<=3)(hp:∀p∈ps,RW ws p)(hl:ps.length<=8)(hf:PW ws f)(ha:PW ws a)(b:Bool)(ho:PW ws (own b f a))(L:Lst dP ⟨own b f a,ho.pk⟩ (brs b f a ps) M):
  Bv [.list (M.map pkS),.list (ps.map mr),dJ f a,.str (sd b)]=.ok (.fr,.bool Z7):=by
 refine cM ?_
 let Φ:List Fn:=[Bu,pK,zB,qV]
 let Q:Res Out->Prop:=λz=>z=.ok (.rt .fr (.bool Z7))
 show Q _;obtain⟨G,hG,hg⟩:=XZ hw hp hl ho b
 let cT:Option GD->Rho:=λu=>[Z9 (.od,.list (M.map pkS)),Z9 (.od,.list (ps.map mr)),Z9 (.od,dJ f a),Z9 (.od,.str (sd b)),Z9 (.al,.int (if b then 0 else 1)),u]
 refine aL (cW (bF (aD (aC rfl) aJ) rfl (BE b) rfl)) ?_;refine q_nm (FX (λi z=>by cases z) (hU (aD (aC rfl) (aD (aZ (aC rfl) (aC rfl) (zK b f a) (bI _)).e (aD (aC rfl) aJ))) rfl hg) rfl) fK (λ_ ρ=>∃u,ρ=cT u) ⟨Z8,rfl⟩ ?_ ?_
 .rintro pre r post ρ hx ⟨u,rfl⟩
  have hr:=hG r (by rw[hx];exact aq _ ah);have hc:=z1e (Κ:=[]) (Φ:=Φ) (ρ:=cT (Z9 (.al,pkS r))) (nt:=1) (js:=[5]) (N':=["_law_one","_law_reason"]) (tg:=.nm 0) (it:=.tv (.var 0)) (cond:=.tv (.call 1 "_law_fits" (.cons (.var 0) (.cons (.var 1) .nil)))) (elt:=.var 0) (λm=>fJ m r) pkS (cE rfl rfl) rfl (λm=>[Z9 (.al,pkS m),Z9 (.al,pkS r)]) (λm _=>kZ (fK m)) (λm _=>aO (bF (aD (aC rfl) (aD (aC rfl) aJ)) rfl (BD r.2) rfl).e rfl) λm _ _=>v_var rfl (fK m);refine kL (k:=(fc ps (b,f,a,r.1)).isNone&&((M.filter λm=>fJ m r).map pkS).isEmpty) (FU (aO (bF (aD (aC rfl) (aD (aC rfl) (aD (aC rfl) (aD (aC rfl) aJ)))) rfl (G6 hp hl hf.pk ha.pk b r) rfl).e rfl) λ_=>aO (cJ (Ev.of hc) (Ev.of (eS bW)) (eq_nil _ (G8 _))).e rfl) ?_ (nH ⟨_,rfl⟩);cases e:(fc ps (b,f,a,r.1)).isNone with
  |false=>rfl
  |true=>
   obtain⟨m,hm,BH⟩:=L.cv r hr ((G5 hp r).mp e);have:m∈M.filter λm=>fJ m r:=ce.mpr ⟨hm,(uG m r).mpr BH⟩;cases h:M.filter λm=>fJ m r with
   |nil=>rw[h]at this;cases this
   |cons _ _=>rfl
 .rintro ρ ⟨u,rfl⟩
  exact bT (dH pE) rfl
def nK:List D:=[.str "",.str "For",.str "none",.str "fors",.none,.int 1,.bool Z7,.int 0,.list [.str "for"],.tuple [.str "for"],.tuple [.str "for",.str "against"],.str "agianst"]
theorem X5 (c:Int):∃t∈nK,iJ (.list nK) (.int (c%12))=.ok t:=by have h0:0<=c%12:=ku c (by decide);have h1:c%12<12:=kj c (by decide);refine⟨nK.getD (c%12).toNat .none,getD_mem h0 h1,?_⟩;show Res.eE (cY nK (c%12))=_;rw[Be nK (c%12) .none h0 h1];rfl
theorem X6 (ha:Ev [] Φ a ρ x)(hb:Ev [] Φ b ρ y)(h:iJ x y=.ok d):Ev [] Φ (.ix a b) ρ d:=by obtain⟨g1,ha⟩:=ha;obtain⟨g2,hb⟩:=hb;exact⟨gJ d g1,by rw[zd];rw[ha,Res.aB,hb,Res.aB];dsimp only;rw[h,Res.aB]⟩
theorem X7 (c:Int):∃t∈nK,∃g,Bp [.int c]=.ok (g,t):=by obtain⟨t,ht,et⟩:=X5 c;obtain⟨g,eg⟩:=X6 (ρ:=[Z9 (.od,.int c),Z9 (.nu,.list nK)]) (a:=.var 1) (b:=.bin .Mod (.var 0) (.int 12)) (aC rfl) (aT (aC rfl) aH.e (eQ (by decide)) rfl).e et;refine⟨t,ht,fO g,?_⟩;refine cM ?_;refine bJ rfl (cL ?_);show(aG [] [] (.ix (.var 1) (.bin .Mod (.var 0) (.int 12))) [Z9 (.od,.int c),Z9 (.nu,.list nK)]>>=λx=>Res.ok (Out.rt (fO x.1) x.2))=_;rw[eg];rfl
theorem X8 (hn:noOwn ρ=Z7)(h:aI Κ Φ s (ρ.map settle)=r):aI Κ Φ (.uT s) ρ=r:=by show(if noOwn ρ then aI Κ Φ s (ρ.map settle)else aI Κ Φ s (ρ.map cV))=r;rw[xp hn];exact h
def X9 (xs:List Int)(w:Int)(ws:List Str)(rs cs re:List Int)(tl:Rho):Rho:=Z9 (.od,.list (xs.map .int))::Z9 (.al,.int w)::Z9 (.od,.list (ws.map .str))::Z9 (.od,.list (rs.map .int))::Z9 (.od,.list (cs.map .int))::Z9 (.od,.list (re.map .int))::tl
theorem X' (x y:D):∀t∈nK,Bq [x,y,t]=.ok (.fr,.bool Z7):=λt ht=>by simp only[nK,aw,eu,or_false]at ht;rcases ht with rfl|rfl|rfl|rfl|rfl|rfl|rfl|rfl|rfl|rfl|rfl|rfl<;>exact rfl
def kI (k:Bool):Int:=if k then 1 else 0
theorem Hb (ha:Vv [] Φ a ρ (.int x))(hb:Vv [] Φ b ρ (.int y))(ht:Ev [] Φ t ρ (.int (kI k))):Vv [] Φ (.ix (.lst (.cons a (.cons b .nil))) t) ρ (.int (if k then y else x)):=aZ (Ev.of (eS (bB ha (bB hb bW)))) ht (by cases k<;>rfl) rfl
theorem Ya {cs:List Int}(gw:GW ws)(rg:RG rs)(hk:Φ[k]?=Z9 zA)(hit:evW [] Φ it ρ=.ok (g,cs.map .int))(h2:ρ[2]?=Z9 (Z9 (.od,.list (ws.map .str))))(h3:ρ[3]?=Z9 (Z9 (.od,.list (rs.map .int)))):∃ps:List (Bool×P×P×P),((∀p∈ps,RW ws p)/\ps.length=cs.length)/\aG [] Φ (.comp 1 [2,3] ["_law_cell","_law_words","_law_rungs_here"] (.nm 0) it .nil (.call k "_law_ruling_by" (.cons (.var 0) (.cons (.var 1) (.cons (.var 2) .nil))))) ρ=.ok (.fr,.list (ps.map mr)):=by
 let rf:Int->Bool×P×P×P:=λc=>(MG c gw rg).choose
 have Nj:=λc=>(MG c gw rg).choose_spec;refine⟨cs.map rf,⟨λp hp=>?_,af ..⟩,?_⟩
 .obtain⟨c,_,rfl⟩:=a6.mp hp;exact(Nj c).1
 have e2:ρ.getD 2 Z8=Z9 (.od,.list (ws.map .str)):=by rw[az,h2];rfl
 have e3:ρ.getD 3 Z8=Z9 (.od,.list (rs.map .int)):=by rw[az,h3];rfl
 have hc:=z1e (nt:=1) (js:=[2,3]) (N':=["_law_cell","_law_words","_law_rungs_here"]) (tg:=.nm 0) (elt:=.call k "_law_ruling_by" (.cons (.var 0) (.cons (.var 1) (.cons (.var 2) .nil)))) (λ_=>Z7) (λc=>mr (rf c)) hit rfl (λc=>[Z9 (.al,.int c),Z9 (.od,.list (ws.map .str)),Z9 (.od,.list (rs.map .int))]) (λc _=>by rw[bg,bg,e2,e3];exact kZ rfl) (λc _=>tO) λc _ _=>bF (aD (aC rfl) (aD (aC rfl) (aD (aC rfl) aJ))) hk (Nj c).2 (mI _);rw[im.mpr (λ_ _=>rfl),show(cs.map λc=>mr (rf c))=(cs.map rf).map mr by rw[gb];rfl]at hc;exact hc
theorem Yb {xs:List Int}(hl:xs.length<=63):Gh [.list (xs.map .int)]=.ok (.fr,.bool Z7):=by
 refine cM ?_
 let Q:Res Out->Prop:=λz=>z=.ok (.rt .fr (.bool Z7))
 show Q _
 let Φ:List Fn:=[Bq,Bp,iD,zy,Bv,Bt,qU,Bo,zA,vU]
 obtain⟨w,ws,rs,cs,re,hb,eb⟩:=W0 hl (m:=8) (o:=3) (k:=9) (Φ:=Φ) (by decide) (by decide) (by decide) rfl [Z8,Z8,Z8,Z8,Z8,Z8,Z8,Z8];refine aL eb ?_;have gw:=hb.gw;have hw:=hb.w3
 let k:Bool:=decide (rs.length=1)
 have Yc:∀{ρ:Rho} {g:G},ρ[3]?=Z9 (Z9 (g,.list (rs.map .int)))->Vv [] Φ (.bi "int" (.cons (.cmp .Eq (.bi "len" (.cons (.var 3) .nil)) (.int 1)) .nil)) ρ (.int (kI k)):=λh=>bX (aD (cJ (k:=k) (bX (aD (aC h) aJ) (Gs rs) rfl).e aH.e (by show Res.ok (aY (.int _) (.int _))=_;rw[mY];exact congrArg Res.ok (decide_eq_decide.mpr (by omega)))).e aJ) (by cases k<;>rfl) rfl
 let R0:Option GD->Option GD->Option GD->Option GD->Option GD->Option GD->Option GD->Rho:=λu7 u8 u9 zP wI pS pT=>X9 xs w ws rs cs re [Z9 (.al,.int (kI k)),u7,u8,u9,zP,wI,pS,pT]
 refine aL (X8 rfl (cW (Yc rfl))) ?_;have kn:∀{ρ:Rho} {g:G},ρ[6]?=Z9 (Z9 (g,.int (kI k)))->Ev [] Φ (.ix (.lst (.cons (.int 8) (.cons (.int 4) .nil))) (.var 6)) ρ (.int (if k then 4 else 8)):=λh=>(Hb aH aH (aC h)).e
 have zQ:∀l:List Int,(cut l Z8 (Z9 (if k then 4 else 8))).length<=8:=λl=>by
  cases k
  .exact GA l 8
  .exact bo (GA l 4) (by decide)
 obtain⟨gs,Yd⟩:=fU (ρ:=R0 Z8 Z8 Z8 Z8 Z8 Z8 Z8) (a:=.var 4) (aC rfl) mT (jE (kn rfl)) (pM cs _ _);obtain⟨Ye,⟨Nk,Nh⟩,Yf⟩:=Ya (k:=8) gw hb.rg rfl (cE Yd rfl) rfl rfl;have Yg:Ye.length<=8:=by rw[Nh];exact zQ cs
 obtain⟨ps,⟨Yh,Y2,_⟩,eq⟩:=WX (λp h=>(Nk p h).gr) (by omega);have hp:=λp h=>Nk p (Yh p h);have jZ:ps.length<=8:=by omega
 let B:GD:=(.fr,.list (ps.map mr))
 refine aL (eC (hU (aD (Ev.of Yf) aJ) rfl eq) (GI _)) ?_;refine aL (eC (nB (aC rfl) rfl (LH _ _) (GI ps)) (GI ps)) ?_
 let cl:List Int:=cut re Z8 (Z9 (if k then 4 else 8))++[5]
 have hz:aG [] Φ (.bin .Add (.sl (.var 5) .nil (.tv (.ix (.lst (.cons (.int 8) (.cons (.int 4) .nil))) (.var 6)))) (.lst (.cons (.int 5) .nil))) (R0 (Z9 B) (Z9 B) Z8 Z8 Z8 Z8 Z8)=.ok (.fr,.list (cl.map .int)):=by rw[b7];exact Bg (fU (aC rfl) mT (jE (kn rfl)) (pM _ _ _)) (Ev.of (eS (bB aH bW))) (add_list (by have:=zQ re;rw[af];show(cut re Z8 _).length+1<=1000;omega)) (by rw[<-b7];exact kK _)
 refine q_nm (FX (λi z=>by cases z) hz rfl) (λ_=>rfl) (λ_ ρ=>∃u9 zP wI pS pT,ρ=R0 (Z9 B) (Z9 B) u9 zP wI pS pT) ⟨Z8,Z8,Z8,Z8,Z8,rfl⟩ ?_ ?_
 .rintro pre c post ρ hx ⟨u9,zP,wI,pS,pT,rfl⟩
  obtain⟨m9,_,Yi⟩:=pN c (k:=9) (by decide) (by decide);obtain⟨Yj,_,Hc⟩:=pN c (k:=10) (by decide) (by decide);obtain⟨Yk,_,Hd⟩:=pN c (k:=26) (by decide) (by decide);have vm:∀{ρ:Rho} {g:G} {i m:Int},iD [.int c,.int i]=.ok (.fr,.int m)->ρ[9]?=Z9 (Z9 (g,.int c))->Vv [] Φ (.call 2 "_law_mix" (.cons (.var 9) (.cons (.int i) .nil))) ρ (.int m):=λe h=>bF (aD (aC h) (aD aH.e aJ)) rfl e rfl;obtain⟨f,a,⟨hf,ha⟩,ec⟩:=MD (if k then c/2 else m9) gw hb.rg;refine aL (ρ':=R0 (Z9 B) (Z9 B) (Z9 (.al,.int c)) (Z9 (.al,dJ f a)) wI pS pT) (cW (bF (aD (Hb (vm Yi rfl) (aT (aC rfl) aH.e (mH (by decide) (by decide)) rfl) (aC rfl)).e (aD (aC rfl) (aD (aC rfl) aJ))) rfl ec (nG _ _))) ?_
  let s:Int:=if k then c else Yj
  let b:Bool:=decide (s%2=0)
  refine aL (ρ':=R0 (Z9 B) (Z9 B) (Z9 (.al,.int c)) (Z9 (.al,dJ f a)) (Z9 (.al,.str (sd b))) pS pT) (cW (GG (aT (Hb (vm Hc rfl) (v_var rfl rfl) (aC rfl)).e aH.e (eQ (by decide)) rfl).e)) ?_;have ho:PW ws (own b f a):=by cases b<;>assumption
  obtain⟨M,⟨L,h61,Yl⟩,eM⟩:=zks hw hp jZ hf ha b ho
  let R1:Option GD->Option GD->Rho:=λpS pT=>R0 (Z9 B) (Z9 B) (Z9 (.al,.int c)) (Z9 (.al,dJ f a)) (Z9 (.al,.str (sd b))) pS pT
  let FM:GD:=(.fr,.list (M.map pkS))
  refine aL (eC (hU (aD (aC rfl) (aD (aC rfl) (aD (aC rfl) aJ))) rfl eM) (jF _)) ?_;refine kL (hW (jY (aO (FT (aC rfl)).e rfl)) λ_=>jY (aO (bF (aD (aC rfl) (aD (aC rfl) (aD (aC rfl) (aD (aC rfl) aJ)))) rfl (z7l hw hp jZ hf ha b ho L h61 Yl) rfl).e rfl)) rfl ?_;refine kL (k:=Z6||(!true)) (hW (aO (cJ (bX (d:=.int ((M.map pkS).length:Int)) (aD (aC rfl) aJ) rfl rfl).e (Nd (aC rfl) (XN L.nd h61) rfl).e (by show Res.ok (!aY (.int _) (.int _))=_;rw[mY,af,xz rfl];rfl)).e rfl) λ_=>jY (aO (bF (aD (aC rfl) (aD (aC rfl) (aD (aC rfl) (aD (aC rfl) aJ)))) rfl (z85 hw hp jZ hf ha b ho L) rfl).e rfl)) rfl ?_;refine aL (eC (nB (aC rfl) rfl (LH _ _) (jF M)) (jF M)) ?_
  let Ym:GD:=(.fr,.list (M.map pkS++[.tuple []]))
  refine aL (ρ':=R1 (Z9 Ym) (Z9 FM)) ?_ ?_
  .rw[pG (gB bW) rfl (by rw[af];omega)];show Res.ok (Out.nx [_,_,_,_,_,_,_,_,_,_,dW (Z9 (.al,dJ f a)),_,_,_])=_;rw[Gv (nG f a)];rfl
  refine kL (aO (cJ (Ev.of (hU (aD (aC rfl) (aD (aC rfl) (aD (aC rfl) aJ))) rfl eM)) (aC rfl) (XM M)).e rfl) rfl ?_;obtain⟨o,Yn,go,eo⟩:=X7 Yk;refine kL (jY (aO (bF (aD (aC rfl) (aD (aC rfl) (aD (vM (aD (vm Hd rfl).e aJ) rfl eo) aJ))) rfl (X' _ _ o Yn) rfl).e rfl)) rfl ?_;exact nH ⟨_,_,_,_,_,rfl⟩
 .rintro ρ ⟨u9,zP,wI,pS,pT,rfl⟩
  exact bT (dH (cJ (aC rfl) (aC rfl) (GL ps))) rfl
open PySem.Spec PyProof.Rows L2
def top (i:Nat):Stmt:=PySem.Challenge.pw_likebook_k25_least_reasons.main.body.getD i (.Pass ⟨0,0,0,0⟩)
abbrev uH:List Str:=["isinstance","str","tuple","sorted","max","dict","any","list","len","range","int","zip","sum","min","bool","ValueError","set"]
abbrev Rz:List aQ:=[
 ⟨"check_side",top 15,["side"],["side"],["isinstance","str"],[],zl,tP,.n,[]⟩,
 ⟨"side_of",top 16,["case","side"],["case","side"],[],[0],zm,mE,.n,[]⟩,
 ⟨"greatest",top 18,["pairs","found","name","amount"],["pairs"],["tuple","sorted","max"],[],zo,tQ,.n,[]⟩,
 ⟨"degree",top 19,["one","name"],["one","name"],["dict"],[],zq,kM,.n,[]⟩,
 ⟨"over",top 22,["one","other","held"],["one","other"],["dict"],[],zr,mF,.n,[]⟩,
 ⟨"within",top 20,["one","other"],["one","other"],[],[4],zt,fT,.n,[]⟩,
 ⟨"join",top 21,["one","other"],["one","other"],[],[2],zu,pH,.n,[]⟩,
 ⟨"is_least",top 28,["one","rivals"],["one","rivals"],["any"],[5],zv,pI,.n,[]⟩,
 ⟨"lifted",top 27,["free","caught","step","name","rivals","made"],["free","caught","step"],[],[7,6,3],zw,pJ,.n,[]⟩,
 ⟨"beyond",top 26,["least","held","reach","free","caught","found","name"],["least","held","reach"],["list"],[4,8,3,5],zx,mG,.n,[]⟩,
 ⟨"least_reasons",top 25,["book","case","side","held","least","one"],["book","case","side"],["sorted","len"],[5,1,9],F0,zy,.n,[("MOST_REASONS",.i 100)]⟩,
 ⟨"_law_mix",top 30,["_law_cell","_law_k","_law_some"],["_law_cell","_law_k"],[],[],LS,iD,.n,[]⟩,
 ⟨"_law_names",top 31,["_law_cell","_law_many","_law_letters","_law_size","_law_at_here","_law_words","_law_k","_law_spelt","_law_j","_law_step"],["_law_cell","_law_many"],["sorted","range","int"],[],LU,tS,.n,[]⟩,
 ⟨"_law_rungs",top 32,["_law_cell","_law_low"],["_law_cell"],[],[],F3,tT,.n,[]⟩,
 ⟨"_law_digits",top 33,["_law_cell","_law_many","_law_base","_law_found","_law_k"],["_law_cell","_law_many","_law_base"],["range"],[],F5,eT,.n,[]⟩,
 ⟨"_law_packed",top 34,["_law_words","_law_amounts"],["_law_words","_law_amounts"],["tuple","zip"],[],LW,nD,.n,[]⟩,
 ⟨"_law_free_names",top 35,["_law_cells","_law_kept_words","_law_found","_law_cell","_law_digits_here","_law_spelt","_law_size"],["_law_cells"],[],[14],F6,tU,.n,[]⟩,
 ⟨"_law_begun",top 36,["_law_script","_law_many","_law_most","_law_whole","_law_head","_law_rungs_here","_law_words","_law_top"],["_law_script","_law_many","_law_most"],["sorted","sum"],[16,12,13,11],Bl,vU,.n,[]⟩,
 ⟨"_law_pack_by",top 37,["_law_cell","_law_words","_law_rungs_here"],["_law_cell","_law_words","_law_rungs_here"],["len"],[15,14],F7,Bm,.n,[]⟩,
 ⟨"_law_case_by",top 38,["_law_cell","_law_words","_law_rungs_here","_law_digits_here"],["_law_cell","_law_words","_law_rungs_here"],["len"],[18,11,15,14],F8,qU,.n,[]⟩,
 ⟨"_law_less",top 39,["_law_one","_law_cell","_law_rungs_here","_law_base","_law_rows","_law_pair","_law_digit","_law_mine"],["_law_one","_law_cell","_law_rungs_here"],["tuple","zip","len","min"],[14],F9,vV,.n,[]⟩,
 ⟨"_law_free_ruling",top 40,["_law_cell","_law_words","_law_base","_law_many","_law_digits_here","_law_own","_law_reason","_law_case"],["_law_cell","_law_words","_law_base"],["zip","min","len"],[15,14],LX,vW,.n,[]⟩,
 ⟨"_law_ruling_by",top 41,["_law_cell","_law_words","_law_rungs_here","_law_case","_law_way","_law_reason"],["_law_cell","_law_words","_law_rungs_here"],["len"],[20,11,19,21],Ga,zA,.n,[]⟩,
 ⟨"_law_amount",top 42,["_law_one","_law_word","_law_told","_law_amount_here"],["_law_one","_law_word"],[],[],LY,tV,.n,[]⟩,
 ⟨"_law_fits",top 43,["_law_one","_law_two","_law_word","_law_amount_here"],["_law_one","_law_two"],[],[23],LZ,pK,.n,[]⟩,
 ⟨"_law_at",top 44,["_law_side"],["_law_side"],["int"],[],L0,qV,.n,[]⟩,
 ⟨"_law_clash",top 45,["_law_one","_law_two"],["_law_one","_law_two"],[],[24,25],L1,tW,.n,[]⟩,
 ⟨"_law_whole_book",top 46,["_law_rulings","_law_found","_law_one"],["_law_rulings"],[],[26],Gb,Bo,.n,[]⟩,
 ⟨"_law_number",top 47,["_law_found"],["_law_found"],["isinstance","bool","int"],[],L3,vX,.n,[]⟩,
 ⟨"_law_first_clash",top 48,["_law_book","_law_one","_law_k"],["_law_book","_law_one"],["range","len"],[26],L4,Ge,.n,[]⟩,
 ⟨"_law_same",top 49,["_law_found","_law_due"],["_law_found","_law_due"],[],[28],L5,V8,.n,[]⟩,
 ⟨"_law_no_side",top 50,["_law_error","_law_some"],["_law_error"],["isinstance","ValueError"],[],V9,λ_=>.no,.e "NoSide" Z7,[]⟩,
 ⟨"_law_odd",top 51,["_law_cell","_law_some"],["_law_cell"],[],[],L6,Bp,.n,[]⟩,
 ⟨"_law_refused",top 52,["_law_book","_law_case","_law_side","_law_error","e"],["_law_book","_law_case","_law_side"],[],[10],L7,Bq,.g L8 31,[]⟩,
 ⟨"_law_is_pack",top 53,["_law_found","_law_room","_law_pair"],["_law_found","_law_room"],["len","set","isinstance","tuple","sorted"],[28,24],L9,Gf,.n,[]⟩,
 ⟨"_law_lowered",top 54,["_law_one","_law_k","_law_word","_law_amount_here"],["_law_one","_law_k"],[],[],L',Br,.n,[]⟩,
 ⟨"_law_allowed",top 55,["_law_book","_law_case","_law_side","_law_reason"],["_law_book","_law_case","_law_side","_law_reason"],[],[29],Ma,zB,.n,[]⟩,
 ⟨"_law_each_least",top 56,["_law_found","_law_book","_law_case","_law_side","_law_one","_law_k"],["_law_found","_law_book","_law_case","_law_side"],["sorted","range","len"],[36,35,34,25],Mb,Bt,.n,[]⟩,
 ⟨"_law_wider",top 58,["_law_grid_here","_law_word","_law_amounts","_law_found","_law_one","_law_amount_here"],["_law_grid_here","_law_word","_law_amounts"],[],[],Mc,zC,.n,[]⟩,
 ⟨"_law_grid",top 57,["_law_book","_law_room","_law_at_here","_law_grid_here","_law_word","_law_most","_law_amounts","_law_one","_law_needed"],["_law_book","_law_room","_law_at_here"],[],[38,23],Gg,Bu,.n,[]⟩,
 ⟨"_law_none_lacks",top 59,["_law_found","_law_book","_law_case","_law_side","_law_at_here","_law_reason"],["_law_found","_law_book","_law_case","_law_side"],[],[39,24,36,25],Md,Bv,.n,[]⟩]
abbrev Lr:aQ:=⟨"law",top 60,["_law_script","_law_whole","_law_words","_law_rungs_here","_law_cells","_law_rest","_law_free","_law_book","_law_handed","_law_cell","_law_case","_law_side","_law_found","_law_due"],["_law_script"],["list","len","set","isinstance","int"],[33,32,11,10,40,37,19,27,22,17],Me,Gh,.n,[]⟩
abbrev Xt:List XR:=[⟨"NoSide",[("Unknown",Z6),("Twice",Z6),("NoRow",Z6),("NotYours",Z6),("NoRuling",Z6),("NotAllowed",Z6),("Late",Z6),("NoCourt",Z6),("NoReason",Z6),("TooMuch",Z6),("NoPack",Z6),("NoSide",Z7)],"BookError"⟩,⟨"TooMuch",[("Unknown",Z6),("Twice",Z6),("NoRow",Z6),("NotYours",Z6),("NoRuling",Z6),("NotAllowed",Z6),("Late",Z6),("NoCourt",Z6),("NoReason",Z6),("TooMuch",Z7),("NoPack",Z6),("NoSide",Z6)],"BookError"⟩]
theorem He:oks (Rz++[Lr]) Xt uH 0 (Rz++[Lr])=true:=by decide+kernel
theorem Yo:fOks (Rz++[Lr]) (Rz++[Lr]):=⟨rfl,rfl,rfl,rfl,rfl,rfl,rfl,rfl,rfl,rfl,rfl,rfl,rfl,rfl,rfl,rfl,rfl,rfl,rfl,rfl,rfl,rfl,rfl,rfl,rfl,rfl,rfl,rfl,rfl,rfl,rfl,trivial,rfl,rfl,rfl,rfl,rfl,rfl,rfl,rfl,rfl,rfl,trivial⟩
def uI:DefRec:=⟨"law",lH (top 60),z0o (top 60),z09 (top 60),⟨269,0,288,35⟩⟩
theorem zR:KEq zT (Rz++[Lr]) uH Xt:=by
 rw[PySem.W.Fast.tkeq_eq];intro P
 kernel_rfl
theorem Yp:Tp.said PySem.Challenge.rw_likebook_k25_least_reasons=true:=by
 rw[PySem.W.Fast.tsaid_eq]
 kernel_rfl
theorem Yq:W.opening lA=W.plainProg lA.main.scope.names:=by kernel_rfl
theorem Yr:∀s,fenceModules? lA s=Z9 s:=λs=>by kernel_rfl
theorem Ys:W.defOf wK PySem.Challenge.rw_likebook_k25_least_reasons.row.name=Z9 (uI,[]):=by kernel_rfl
theorem Yt:lA.theDef PySem.Challenge.rw_likebook_k25_least_reasons.row.name=Z9 (uI.params,uI.body,uI.scope):=by kernel_rfl
theorem Yu:W.kwWritten? uI.params.kwonlyargs uI.params.kw_defaults=Z9 []:=by kernel_rfl
theorem Yv:(!PySem.Challenge.rw_likebook_k25_least_reasons.row.writes||PySem.Challenge.rw_likebook_k25_least_reasons.row.records.isEmpty)=true:=by kernel_rfl
theorem Yw:(W.chainsOk wK&&W.opensWell lA&&(W.frees PySem.Challenge.rw_likebook_k25_least_reasons.row.toRowW&&PySem.Challenge.rw_likebook_k25_least_reasons.row.within.isEmpty))=true:=by kernel_rfl
theorem walk {l:W.OpenLaw}{K:jo->Z5}(hn:l.most=Z9 63)(hdf:d.params.defaults=[])
  (hY:∀(w:World) (h:Heap),YP w h->(K w.params).In h)
  (F:∀(w:World) (mg:Str->Option Value) (fa:Addr) (h:Heap),(K w.params).In h->h.Ns ci mg->mg d.name=Z9 (.ref fa)->∃fd:ms,(∀(s:ao) (u:Value),tz s fd ⟨[u],[]⟩ [("_law_script",u)])/\∀base:Heap,(K w.params).In base->base.Ns ci mg->FnOk l.prog w (K w.params) mg base iU 42 fa fd ["_law_script"] (spD (K w.params) 1 Gh)):
  W.WalkO q loose XP YP l.row.toRowW d [] (λf vs=>PySem.call f vs):=
 L2.walk_of hn (by decide) hdf ⟨rfl,by decide,by decide⟩ hY F (λ_ _ a ns hl _ hS=>⟨_,_,_,rfl,UJ hS,Yb hl,λv H' _ r=>r⟩) λ_ _ _ _ _ z=>z
theorem Hf:tL Rz:=⟨λ_ _ _ _ _ _=>mW λ_=>rfl,λ_ _ _ _ _ _=>hJ λ_ _=>rfl,λ_ _ _ _ _ _=>mW λ_=>rfl,λ_ _ _ _ _ _=>hJ λ_ _=>rfl,λ_ _ _ _ _ _=>hJ λ_ _=>rfl,λ_ _ _ _ _ _=>hJ λ_ _=>rfl,λ_ _ _ _ _ _=>hJ λ_ _=>rfl,λ_ _ _ _ _ _=>hJ λ_ _=>rfl,λ_ _ _ _ _ _=>jD λ_ _ _=>rfl,λ_ _ _ _ _ _=>jD λ_ _ _=>rfl,λ_ _ _ _ _ _=>jD λ_ _ _=>rfl,λ_ _ _ _ _ _=>hJ λ_ _=>rfl,λ_ _ _ _ _ _=>hJ λ_ _=>rfl,λ_ _ _ _ _ _=>mW λ_=>rfl,λ_ _ _ _ _ _=>jD λ_ _ _=>rfl,λ_ _ _ _ _ _=>hJ λ_ _=>rfl,λ_ _ _ _ _ _=>mW λ_=>rfl,λ_ _ _ _ _ _=>jD λ_ _ _=>rfl,λ_ _ _ _ _ _=>jD λ_ _ _=>rfl,λ_ _ _ _ _ _=>jD λ_ _ _=>rfl,λ_ _ _ _ _ _=>jD λ_ _ _=>rfl,λ_ _ _ _ _ _=>jD λ_ _ _=>rfl,λ_ _ _ _ _ _=>jD λ_ _ _=>rfl,λ_ _ _ _ _ _=>hJ λ_ _=>rfl,λ_ _ _ _ _ _=>hJ λ_ _=>rfl,λ_ _ _ _ _ _=>mW λ_=>rfl,λ_ _ _ _ _ _=>hJ λ_ _=>rfl,λ_ _ _ _ _ _=>mW λ_=>rfl,λ_ _ _ _ _ _=>mW λ_=>rfl,λ_ _ _ _ _ _=>hJ λ_ _=>rfl,λ_ _ _ _ _ _=>hJ λ_ _=>rfl,λ_ _ _ _ _ _=>mW λ_=>rfl,λ_ _ _ _ _ _=>mW λ_=>rfl,λ_ _ _ _ _ _=>jD λ_ _ _=>rfl,λ_ _ _ _ _ _=>hJ λ_ _=>rfl,λ_ _ _ _ _ _=>hJ λ_ _=>rfl,λ_ _ _ _ _ _=>by4 λ_ _ _ _=>rfl,λ_ _ _ _ _ _=>by4 λ_ _ _ _=>rfl,λ_ _ _ _ _ _=>jD λ_ _ _=>rfl,λ_ _ _ _ _ _=>jD λ_ _ _=>rfl,λ_ _ _ _ _ _=>by4 λ_ _ _ _=>rfl,trivial⟩
end Mk
open PySem PySem.W PyProof.Rows Mi
set_option maxRecDepth 100000 in
set_option maxHeartbeats 0 in
theorem PySem.Challenge.cw_likebook_k25_least_reasons_holds : PySem.Challenge.rw_likebook_k25_least_reasons.Holds := by
 refine Tp.holds (l:=PySem.Challenge.rw_likebook_k25_least_reasons) (q:=Mk.wK) (d:=Mk.uI) (K:=Mk.zT) (M:=100000) (N:=200000) Mk.Yp (Tp.wJ _ _ Mk.zS) Mk.Yq rfl Mk.Yr (by decide) Mk.Nm Mk.Nn Mk.Ys Mk.Yt Mk.Yu Mk.Yv Mk.Yw ⟨rfl,rfl,rfl,rfl,rfl,by decide+kernel⟩ (by w_witness2) ?_;refine Mk.walk (l:=PySem.Challenge.rw_likebook_k25_least_reasons) rfl rfl (λw h Y=>Y) ?_;intro w mg fa h KX G Yx;exact all_rows (Rs:=Mk.Rz) (lr:=Mk.Lr) (xt:=Mk.Xt) (fr:=Mk.uH) KX G Yx rfl rfl Mk.He Mk.Yo (Lh (λr hr=>(y7 Mk.zR w.params).1 r (cx _ hr)) Mk.Hf) ((y7 Mk.zR w.params).1 Mk.Lr (aq _ (.head _))) (λ_ _ _ _ _ _ s v=>.of_eq rfl) (y7 Mk.zR w.params).2.1 (y7 Mk.zR w.params).2.2.1 (λ_=>by decide) (y7 Mk.zR w.params).2.2.2
