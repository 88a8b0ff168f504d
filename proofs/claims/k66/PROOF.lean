import PyProof.Rows.All
import Wide.All
import OpenK.AllK
import PySem.Challenge.RW_likebook_k66_too_many_uses
open Option renaming some->Z9,none->Z8
open PySem.W renaming Frag->Z5,findIn->Z4,keepIn->Z3,kia_one->Z2,nsIn->Z1,subIn->Z0,looks_findIn->ZZ
open PySem.PyData renaming strOk->ZY,str->ZX,list->ZW,int->ZV,canLay0->ZU,bool->ZT
open PySem.Value renaming ref->ZS,type->ZR
open Bool renaming true->Z7,false->Z6
open Lean.Parser.Command in
local macro_rules|`(def $a:declId $b:optDeclSig $c:declVal)=>`(noncomputable def $a:declId $b:optDeclSig $c:declVal)|`(abbrev $a:declId $b:optDeclSig $c:declVal)=>`(noncomputable abbrev $a:declId $b:optDeclSig $c:declVal)
noncomputable section
open Array renaming getElem?_eq_getElem->cj,getD_eq_getD_getElem?->dj,getElem?_eq_some_iff->dq,length_toList->e9,getElem?_toList->gm,getElem?_eq_none->i9,append_assoc->vg,find?_toList->vm,toList_push->xb
open Bool renaming and_eq_true_iff->bn,and_eq_true->cq,false_ne_true->gp,or_eq_true_iff->gz,beq_eq_decide_eq->ni,or_eq_true->oy,eq_iff_iff->o0,or_true->pi,eq_false_iff->qg,or_false->qm,true_or->we,not_eq_true'->wu
open Int renaming toNat_natCast->d7,emod_lt_of_pos->gg,emod_nonneg->g8,le_refl->jy,natCast_mul->tj,le_trans->xh
open List renaming length_map->ae,mem_singleton->ag,getElem?_eq_getElem->am,getElem?_map->ar,mem_cons->au,mem_map->av,mem_cons_of_mem->ay,getD_eq_getElem?_getD->az,getElem?_eq_some_iff->ba,mem_cons_self->bb,mem_append_right->bg,replicate->bo,length_append->bq,map_cons->br,mem_of_getElem?->bt,length_cons->bu,mem_append->bw,mem_append_left->bz,size_toArray->cb,range->cc,map_append->cf,contains_iff_mem->cn,all_eq_true->cx,nodup_cons->cz,getElem?_set_ne->df,length_replicate->dg,map_map->dh,getElem?_set_self->dm,filterMap_cons->dr,length_set->du,lookup_cons->d5,append_nil->d6,mem_iff_getElem?->d9,all_cons->eg,filter_eq_self->fg,getElem?_replicate->fh,getElem?_zip_eq_some->fi,take_of_length_le->fj,mem_filter->fm,find?_cons->fy,length_range->fz,map_inj_left->gb,mem_range->gf,filter_cons->gj,append_assoc->gw,getElem?_set->gx,nodup_nil->gy,length_take->g9,getElem_mem->ig,pairwise_cons->ij,length_eq_zero_iff->io,filter_cons_of_neg->ip,pairwise_singleton->iu,flatMap_cons->iw,getElem?_range->i5,map_congr_left->i6,mem_flatMap->ja,filter_append->jc,length_zipIdx->jd,getElem?_eq_none->jf,getElem?_append_left->jg,of_mem_zip->jj,pairwise_map->jp,mem_filterMap->jz,filter_eq_nil_iff->j1,length_filter_le->j6,ext_getElem?->j7,foldl_append->j8,getElem?_append_right->kj,take_succ->km,drop_eq_getElem_cons->lg,pairwise_iff_getElem->lh,mem_or_eq_of_mem_set->lj,any_cons->lq,Pairwise->ls,length_zip->l0,getElem?_cons_succ->l9,filter_cons_of_pos->mi,take_sublist->mn,nodup_append->mz,take_append_drop->nj,getElem?_toArray->nk,not_mem_nil->nq,isEmpty_map->n5,getElem?_append->oj,getElem?_zipIdx->ou,length_nil->ox,dropLast_concat_getLast->pc,replicate_succ->pd,flatMap_append->pe,contains_cons->p6,length_eraseIdx_of_lt->p8,findSome?_eq_none_iff->qb,filterMap_cons_none->qp,filterMap_cons_some->qr,length_drop->qx,any_eq_true->qz,isEmpty_iff->rc,cons_append->rj,append_cancel_left->ro,length->tu,map_id->t9,pairwise_append->ua,dropLast_concat->ue,getElem_of_mem->uj,zipIdx_map_fst->ul,filter_sublist->um,getElem_zipIdx->uo,findSome?_cons->uq,getElem?_drop->vq,set_set->wz,all_map->w5,Perm->xm,foldl->xy
open Nat renaming le_refl->ai,le_trans->bp,lt_of_lt_of_le->cr,ne_of_lt->cu,zero_le->cy,lt_irrefl->dk,zero_add->jo,le_of_not_lt->jv,le_of_lt->kr,ne_of_gt->kt,le_add_right->la,lt_trans->mo,mod_eq_of_lt->n6,le_succ->oo,pow_le_pow_right->oq,one_mul->ot,mul_le_mul_left->pf,lt_succ_of_lt->qh,mul_one->uc,mul_le_mul_right->ud,add_sub_cancel'->ui,mul_assoc->u8,add_right_comm->vy,lt_of_le_of_lt->wa,mul_comm->wp,le_succ_of_le->xj
open Option renaming map_eq_some_iff->bc,isNone_iff_eq_none->gk,bind_eq_some_iff->mf,isSome_map->qf,map_eq_none_iff->sx
open Prod renaming fst->x4
open PyProof.Rows renaming seqObj->j5,AllBare->ph,subscriptTail_builtinR->si,size_push'->sk,envOfC->tt,IntsAre->ug,Constant_none->ur
open PySem renaming wpAny_bind->ac,wpAny_pure->ah,Shared->aq,PyData->aw,sizeLine->bh,SetTable->bv,mainGlobals->ce,Program->cg,wpAny_loadPart_at->cw,wpAny_setField_rec->c9,bootBuiltins->db,sizeLine_eq->dw,wpAny_holding->dz,wpAny_call_entry->d3,Around->d8,wpAny_callSpecial?_slot->ef,wpAny_field->eh,starEach->fq,rawInt->gc,compareOp->ge,behindInMarks->gh,wpAny_seqItems->gn,wpAny_mono->gq,wpAny_newObj_type->gr,wpAny_setEntries_of->g6,codeAny_builtin->g7,wpAny_truthy_bool->il,foldedSetIterable->im,assignEach->iy,Params->iz,binaryOp->i3,FuncData->i4,NameKind->jb,PassesOwn->ji,wpAny_pyIter_list->jm,codeAny_call_builtin->jn,wpAny_setState_of->jq,wpAny_rule->jr,wpAny_isSubtype_exc->ju,wpAny_getItem_str_slice->jw,wpAny_askSetting->jx,tupleKind_room_in1->j0,letOwnedTupleGo->j2,plainId_quiet->j3,noteFrame->j4,sysModules->j9,intKind->ko,codeAny->ku,codeAny_mono->ky,wpAny_typeOf->kz,wpAny_raiseNew_none->lm,wpAny_attempt->lv,wpAny_passesOwn->lx,importedModules->l4,Paired->l5,wpAny_Call_Name_kw->l6,swapsWith->l7,sliceBounds->l8,setFlight->ma,treeTable->mh,pyNext->mj,wpAny_setField->mw,wpAny_pyIter_slot->my,wpAny_isInstance->ny,checkBuiltinCall->nz,wpAny_standAt->n8,wpAny_onRaise->n9,OsState->oa,unbindBehindTheSuite->ol,relayAll->om,backTo->ow,post_val_or_str->oz,typeLookup_type->pb,pickOrder->pv,wpAny_newTuple->p5,wpAny_fieldsOf->p9,setEntries->qa,excClassObj->qi,fits_of_scanBound->qj,attributeBase->ql,wpAny_comprehension_free->qo,tupleKind->qu,noFill_tuple_add->qw,GenState->q8,scanBound->ri,pyIter->rq,concat_meets->se,call_meets->sj,isInstance->sr,setNext->sw,wpAny_execs_nil->sy,wpAny_updateSeq->s0,codeAny_of_tree->tf,wpAny_isTrue_Compare1->tm,wpAny_loadName_local->tq,sliceRange_one->tz,Operator->t5,isSubtype_stop->t6,handleBy->t8,BindsTo->uf,OwnTail->uh,swapsWithSole->uu,swappedStores->uw,seq_tuple_add->ux,wpAny_newList->uz,wpAny_Name->vh,assign->vi,wpAny_load->vj,wpAny_call->vo,IsPart->vp,wpAny_pyIter_tuple->vw,setsByText->vx,wpAny_assign_Name->wb,Keyword->wc,valueAt->wf,getItem->wg,seqIndex_neg->wj,slot_list_getitem->wm,callerA->wq,entryFor->wv,getAttr?->ww,wpAny_pyIter_enum->wx,wpAny_storeSet_of->xg,isTrue->xl,seqIndex_of->xn,wpAny_letGo->xo,builtinKind->xp,leaving->xq,builtinsNs->xr,bindArgs->xu,typeLookup->xv,typeIs_str->xw,typeIs_int->xx,excMatches->xz,layNew->x5,fieldsOf->x6,holding->x8,Result->x9
open PySem.Builtin.Dict renaming updateFrom->qy
open PySem.Builtin.Frozenset renaming sizeOf->qs
open PySem.Builtin.List renaming listTooLong->lr,listLengthHint->pj,listExtendWith->pq,listSameRef->qt
open PySem.Builtin.Slice renaming slicePlaces->jh,sliceAdjust->qc
open PySem.Builtin.SmallTypes renaming ownedTupleIsFree->lu,nextOf->qe
open PySem.Builtin.Str renaming strSliceIndices->i8
open PySem.Calls renaming Name_function_global->ke,evalArgs_plain->oh,call_function_entry->qd,loadGlobal_global->qv
open PySem.Heap renaming get?_push_of_some->af,get?_push_size->ax,lt_size->bj,SameBut->ci,get?_update_self->e8,get?_update_other->gu,get?_update_ne->i7,get?_none_of_le->jk,size_push->nh,get?_push_at->qk,MadeExcOf->ub,NewExcOf->uy
open PySem.Heap.SameBut renaming update->jt
set_option Elab.async false
set_option genInjectivity false
set_option genSizeOf false
set_option compiler.extract_closed false
set_option linter.all false
set_option maxRecDepth 100000
theorem dc {p:Prop} [Decidable p] (h:decide p=true:=by rfl):p:=by simpa using h
theorem ya {c:Prop}{d:Decidable c}(h:c){α:Sort _}{a b:α}:@ite α c d a b=a:=if_pos h
theorem yb {c:Prop}{d:Decidable c}(h:¬c){α:Sort _}{a b:α}:@ite α c d a b=b:=if_neg h
theorem yc {α}{a b:α}(h:Z9 a=Z9 b):a=b:=Option.some.inj h
theorem yd {α β}{a c:α}{b d:β}(h:(a,b)=(c,d)):a=c∧b=d:=Prod.mk.inj h
theorem ye {p:Prop} [Decidable p] (h:decide p=Z7):p:=of_decide_eq_true h
theorem yf {p:Prop} [Decidable p] (h:p):decide p=true:=decide_eq_true h
theorem yg {p:Prop} [Decidable p] (h:¬p):decide p=false:=decide_eq_false h
theorem yh {α} [BEq α] [LawfulBEq α] {a b:α}(h:(a==b)=Z7):a=b:=beq_iff_eq.mp h
abbrev XX (x:PySem.Str):Prop:=(x==("__debug__":PySem.Str))=Z6
namespace Tp
open PySem PySem.W PyProof.Rows
def q0:Pos:=⟨0,0,0,0⟩
def an:Option Value:=Z9 (.ref 6)
def ev (p:cg):Env:={scope:=p.main.scope,locals:=mainNs,globals:=mainNs,cells:=[],code:=.ref 13,frame:=Z9 14}
def cd (p:cg):Code:=.body (behindTheImports p) (ev p)
def grow:List Obj->Nat->BT->BT
 | [],_,t=>t
 |o::l,i,t=>grow l (i+1) (t.ins i o)
def lift (s:aq):SharedT:=⟨grow s.heap.objs.toList 0 .nil,s.heap.objs.size,s.heap.life,s.gens,s.drawn,s.toks,s.os⟩
def pre (p:cg)(H:iz->Heap)(d:Drawn)(k:Nat)(w:World)(os:oa):Option (aq×Thread):=topGo mh p w 11 an 12 ⟨H w.params,#[],d,k,os⟩ (topStub p)
def eV (p:cg)(H:iz->Heap)(d:Drawn)(k:Nat)(w:World)(os:oa):SharedT:=lift (((pre p H d k w os).map x4).getD ⟨H w.params,#[],d,k,os⟩)
def run (p:cg)(H:iz->Heap)(d:Drawn)(k N:Nat)(w:World)(os:oa):Option (Flow×SharedT×Code×Pos):=segRunT mh p w 11 an 1 N (eV p H d k w os) (piecesOf (behindTheImports p) (ev p) (cd p) q0 [topFrame q0])
def PreEq (p:cg)(H:iz->Heap)(d:Drawn)(k:Nat):Prop:=∀(w:World) (os:oa),((H w.params).isNs ce&&(#[]:Array q8).size==0,(H w.params).objs.size,(H w.params).nsMap ce "__annotations__",pre p H d k w os,λs c=>segRun mh p w 11 an 1 1 s (blockOf (behindTheImports p) (ev p) c q0 [topFrame q0]))=(Z7,11,an,Z9 ((eV p H d k w os).abs,⟨denote mh (cd p),cd p,q0,[topFrame q0]⟩),λs c=>Z9 (.next,s,c,q0))
def seen (p q:cg)(R:WRecords)(as:List Addr)(H:iz->Heap)(w:World)(s:SharedT):=(staticsOk (l4 p.main.body) (H w.params) s.abs.heap&&namesBound p s.abs.heap&&gensDone s.abs&&laidKept (H w.params) s.abs.heap,openSeen q [] (l4 p.main.body) (λs=>xlAt q [] s&&recOk R s) Z7 s.abs,as.map s.abs.heap.get?)
def pick {α:Type}(f:SharedT->α):Flow×SharedT×Code×Pos->Option (Code×α)
 |(.next,s,c,_)=>Z9 (c,f s)
 |_=>Z8
def iT (p q:cg)(R:WRecords)(as:List Addr)(K:iz->List (Addr×Obj))(H:iz->Heap)(d:Drawn)(k N:Nat):Prop:=∀(w:World) (os:oa),(run p H d k N w os).bind (pick (seen p q R as H w))=Z9 (cd p,Z7,openGood q [],(K w.params).map λx=>Z9 x.2)
theorem BE (b:String->Option Builtin)(p:cg)(w:World)(n:Nat)(a:Option Value)(s:aq)(c:Code)(ps q:Pos):topRun b p w n a 2 s ⟨doneF .next,c,ps,[topFrame q]⟩=Z9 s:=by rfl
theorem left {K:iz->List (Addr×Obj)}(o:∀w,(fencedOpening mh p w N).map (fun s=>(s.heap,s.gens,s.drawn,s.toks))=Z9 (boot_heap w.params,#[],boot_drawn,boot_toks))(le:12+(1+(M+2))<=N)
  (h1:PreEq p boot_heap boot_drawn boot_toks) (h2:iT p q R as K boot_heap boot_drawn boot_toks M):LeftO p q [] (λs=>xlAt q [] s&&recOk R s) (λs=>as.map s.heap.get?) (λw=>(K w.params).map λx=>Z9 x.2) N:=λw=>by
 obtain⟨⟨h,gs,d,k,os⟩,e,e'⟩:=bc.mp (o w);have e1:=yd e';have e2:=yd e1.2;have e3:=yd e2.2;obtain rfl:h=boot_heap w.params:=e1.1;obtain rfl:gs=#[]:=e2.1;obtain rfl:d=boot_drawn:=e3.1;obtain rfl:k=boot_toks:=e3.2;have a:=yd (h1 w os);have a2:=yd a.2;have a3:=yd a2.2;have a4:=yd a3.2;obtain⟨⟨f,s,c,ps⟩,r1,r2⟩:=mf.mp (h2 w os);cases f with
 |next=>
  have b:=yd (yc r2);have b1:=yd b.2;have b2:=yd b1.2;obtain rfl:c=cd p:=b.1;have t1:topRun mh p w 11 an (M+2) (eV p boot_heap boot_drawn boot_toks w os).abs (restOf (behindTheImports p++[]) (ev p) (cd p) q0 [topFrame q0])=Z9 s.abs:=piece_app (segRun_of r1) (BE mh p w 11 an s.abs (cd p) ps q0);rw[d6]at t1;have t4:=topRun_mono (N-(12+(1+(M+2)))) _ _ _ _ (go_top a4.1 (piece_block (congrFun (congrFun a4.2 (eV p boot_heap boot_drawn boot_toks w os).abs) (cd p)) t1));rw[ui le]at t4;have t:topFrom mh p w N ⟨boot_heap w.params,#[],boot_drawn,boot_toks,os⟩=Z9 s.abs:=by unfold topFrom;rw[a.1,a2.1,a3.1,t4];show(match staticsOk (l4 p.main.body) (boot_heap w.params) s.abs.heap&&namesBound p s.abs.heap&&gensDone s.abs&&laidKept (boot_heap w.params) s.abs.heap with|true=>Z9 s.abs|false=>Z8)=_;rw[b1.1]
  unfold openEnds;rw[e];show(topFrom mh p w N _).map _=_;rw[t];exact congrArg Z9 (Prod.ext b2.1 b2.2)
 |_=>cases r2
theorem pre_r:PreEq=PreEq:=rfl
def BF (p q:cg)(R:WRecords)(H:iz->Heap)(w:World)(s:SharedT):=(staticsOk (l4 p.main.body) (H w.params) s.abs.heap&&namesBound p s.abs.heap&&gensDone s.abs&&laidKept (H w.params) s.abs.heap,openSeen q [] (l4 p.main.body) (λs=>xlAt q [] s&&recOk R s) Z7 s.abs)
def RunA (p q:cg)(R:WRecords)(H:iz->Heap)(d:Drawn)(k N:Nat):Prop:=∀(w:World) (os:oa),(run p H d k N w os).bind (pick (BF p q R H w))=Z9 (cd p,Z7,openGood q [])
def RunB (p:cg)(as:List Addr)(K:iz->List (Addr×Obj))(H:iz->Heap)(d:Drawn)(k N:Nat):Prop:=∀(w:World) (os:oa),(run p H d k N w os).bind (pick λs=>as.map s.abs.heap.get?)=Z9 (cd p,(K w.params).map λx=>Z9 x.2)
theorem Mq {e h:Type}{f:SharedT->e}{g:SharedT->h}{x:Option (Flow×SharedT×Code×Pos)}{a:e}{b:h}(d:x.bind (pick f)=Z9 (c,a))(j:x.bind (pick g)=Z9 (c,b)):x.bind (pick λs=>(f s,g s))=Z9 (c,a,b):=by
 cases x with
 |none=>cases d
 |some y=>
  obtain⟨fl,s,k,ps⟩:=y;cases fl with
  |next=>have i:=yd (yc d);show Z9 (k,f s,g s)=_;rw[i.1,i.2,(yd (yc j)).2]
  |_=>cases d
theorem qO {K:iz->List (Addr×Obj)}(c:RunA p q R H d k N)(f:RunB p as K H d k N):iT p q R as K H d k N:=λw os=>by
 have h:=Mq (c w os) (f w os);cases e:run p H d k N w os with
 |none=>rw[e]at h;cases h
 |some y=>
  rw[e]at h;obtain⟨fl,s,g,ps⟩:=y;cases fl with
  |next=>have a:=yd (yc h);have b:=yd a.2;show Z9 (g,(BF p q R H w s).1,(BF p q R H w s).2,as.map s.abs.heap.get?)=_;rw[a.1,b.2,b.1]
  |_=>cases h
theorem runA_r:RunA=RunA:=rfl
theorem runB_r:RunB=RunB:=rfl
end Tp
lay_quick Tp.PreEq Tp.RunA Tp.RunB
name_quick tpre for Tp.PreEq by Tp.pre_r
name_quick truna for Tp.RunA by Tp.runA_r
name_quick trunb for Tp.RunB by Tp.runB_r
namespace Tp
open PySem PySem.W PyProof.Rows
theorem rn_r:run=run:=rfl
end Tp
name_quick trn for Tp.run by Tp.rn_r
namespace Tp
open PySem PySem.W PyProof.Rows
def obj (p:cg)(M:Nat)(P:iz)(a:Addr):Obj:=((PySem.W.Fast.trn p boot_heap boot_drawn boot_toks M ⟨λ_ _=>0,P⟩ default).map λx=>(x.2.1.tree.get a).getD default).getD default
def Ko (p:cg)(M:Nat)(as:List Addr)(P:iz):Frag:=as.map λa=>(a,obj p M P a)
theorem vW (p:cg)(M:Nat)(a:List Addr)(P:iz):a=(Ko p M a P).map (·.1):=by unfold Ko;rw[dh];exact(t9 _).symm
def said (l:OpenLaw):Bool:=l.wellSaid
theorem said_r:said=said:=rfl
theorem holds {K:iz->Frag}(a:said l=Z7)(b:∀P,as=(K P).map (·.1))(c:opening l.row.prog=plainProg l.row.prog.main.scope.names)(g:Nat.ble 600 N=Z7)(h:∀s,fenceModules? l.row.prog s=Z9 s)(le:12+(1+(M+2))<=N)
  (i:PreEq l.row.prog boot_heap boot_drawn boot_toks) (j:iT l.row.prog q l.row.records as K boot_heap boot_drawn boot_toks M) (a1:defOf q l.row.name=Z9 (d,[])) (a2:l.row.prog.theDef l.row.name=Z9 (d.params,d.body,d.scope)) (a3:kwWritten? d.params.kwonlyargs d.params.kw_defaults=Z9 []) (a4:(!l.row.writes||l.row.records.isEmpty)=Z7)
  (k:(chainsOk q&&opensWell l.row.prog&&(frees l.row.toRowW&&l.row.within.isEmpty))=Z7) (m:l.row.prog.bare) (n:l.row.toRowW.promised) (call:WalkO q [] (XL q []) (InK K) l.row.toRowW d [] λf o=>PySem.call f o):l.Holds:=
 holds_law a λz=>holds_open (left (boot_open c g h) le i j) (InK.of b) InK.keeps (λs e=>xl_of s (bn.mp e).1) XL.keeps a1 a2 a3 (λs e=>recFacts_of (bn.mp e).2) a4 z k m n call
end Tp
lay_quick Tp.said
name_quick tsaid for Tp.said by Tp.said_r
namespace Mk
open PySem PySem.Spec PyProof.Rows
abbrev kT:cg:=PySem.Challenge.rw_likebook_k66_too_many_uses.row.prog
def vX:cg:=W.view kT [1,2,3,4,5,7,8,9,11,12,13,14,16,17,18,19,21,22,24,25,26,27,28,30,31,32,33,34,35,36,37,38,40,41,42,43,44,45,46,47]
def zO:List Addr:=cc 293
def vY:iz->Z5:=Tp.Ko kT 100000 zO
theorem Mr:Tp.PreEq kT W.boot_heap W.boot_drawn W.boot_toks:=by
 intro w os
 kernel_rfl
theorem BH:Tp.RunA kT vX PySem.Challenge.rw_likebook_k66_too_many_uses.row.records W.boot_heap W.boot_drawn W.boot_toks 100000:=by
 rw[PySem.W.Fast.truna_eq];intro w os
 kernel_rfl
theorem BJ:Tp.RunB kT zO vY W.boot_heap W.boot_drawn W.boot_toks 100000:=by
 rw[PySem.W.Fast.trunb_eq];intro w os
 kernel_rfl
theorem Ms:Tp.iT kT vX PySem.Challenge.rw_likebook_k66_too_many_uses.row.records zO vY W.boot_heap W.boot_drawn W.boot_toks 100000:=Tp.qO BH BJ
end Mk
namespace L2
open PySem PySem.Spec PyProof.Rows
abbrev Key:=Sum Int Str
def tW:Key->Value->Bool
 |.inl k,v=>Value.isInt k v
 |.inr x,v=>Value.isStrOf x v
def BK (w:World):Key->Int
 |.inl k=>hashInt k
 |.inr x=>hashStr w x
theorem mD:∀{k:Key} {v:Value},tW k v=Z7->(∃i t,k=Sum.inl i/\v=Value.int i t)\/(∃x t,k=Sum.inr x/\v=Value.str x t)
 |.inl i,v,h=>by obtain⟨t,e⟩:=Value.isInt_shape h;exact .inl ⟨i,t,rfl,e⟩
 |.inr x,v,h=>by obtain⟨t,e⟩:=Value.isStrOf_shape h;exact .inr ⟨x,t,rfl,e⟩
theorem Mt (i:Int)(t:Tok):tW (.inl i) (.int i t)=true:=by simp[tW,Value.isInt]
theorem Mu (x:Str)(t:Tok):tW (.inr x) (.str x t)=true:=by simp[tW,Value.isStrOf]
theorem Mv (a b:Int):decide ((Sum.inl a:Key)=Sum.inl b)=(a==b):=by grind
theorem Mw (a b:Str):decide ((Sum.inr a:Key)=Sum.inr b)=decide (a=b):=by grind
theorem Mx (a:Int)(b:Str):decide ((Sum.inl a:Key)=Sum.inr b)=false:=yg (λq=>nomatch q)
theorem My (a:Str)(b:Int):decide ((Sum.inr a:Key)=Sum.inl b)=false:=yg (λq=>nomatch q)
def z0k (prog:cg)(w:World):PySem.KeyKind prog w Key where
 is:=tW
 hash:=BK w
 inj:=λv a b ha hb=>by
  rcases mD ha with⟨i,t,rfl,rfl⟩|⟨x,t,rfl,rfl⟩
  .rcases mD hb with⟨j,u,rfl,e⟩|⟨y,u,rfl,e⟩
   .injection e with e1 _;rw[e1]
   .exact nomatch e
  .rcases mD hb with⟨j,u,rfl,e⟩|⟨y,u,rfl,e⟩
   .exact nomatch e
   .injection e with e1 _;rw[e1]
 byValue:=λk v h=>by rcases mD h with⟨i,t,rfl,rfl⟩|⟨x,t,rfl,rfl⟩<;>rfl
 pyHash:=λhv h=>by
  rcases mD hv with⟨i,t,rfl,rfl⟩|⟨x,t,rfl,rfl⟩
  .exact wpAny_pyHash_int h
  .exact wpAny_pyHash_str h
 eqBool:=λhu hv h=>by
  rcases mD hu with⟨i,t,rfl,rfl⟩|⟨x,t,rfl,rfl⟩
  .rcases mD hv with⟨j,u,rfl,rfl⟩|⟨y,u,rfl,rfl⟩
   .rw[Mv]at h;exact wpAny_eqBool_int h
   .rw[Mx]at h;exact SeqAt.EqAt.int_str i t y u _ _ _ _ h
  .rcases mD hv with⟨j,u,rfl,rfl⟩|⟨y,u,rfl,rfl⟩
   .rw[My]at h;exact SeqAt.EqAt.str_int x t j u _ _ _ _ h
   .rw[Mw]at h;exact wpAny_eqBool_str h
 «strs»:=λk x t v h=>by
  rcases mD h with⟨i,u,rfl,e⟩|⟨y,u,rfl,e⟩
  .exact nomatch e
  .injection e with e1 _;subst e1;cases v<;>rfl
theorem Mz (prog:cg)(w:World)(i:Int)(t:Tok):(z0k prog w).is (.inl i) (.int i t)=true:=Mt i t
theorem MA (prog:cg)(w:World)(x:Str)(t:Tok):(z0k prog w).is (.inr x) (.str x t)=true:=Mu x t
inductive V where
 |non|bl (b:Bool)|int (i:Int)|str (x:Str)|ref (a:Addr)|ty (n:String)
 deriving DecidableEq
def RelV:V->Value->Prop
 |.non,u=>u=Value.none
 |.bl b,u=>u=Value.bool b
 |.int i,u=>∃t,u=Value.int i t
 |.str x,u=>∃t,u=Value.str x t
 |.ref a,u=>u=ZS a
 |.ty n,u=>u=ZR n
abbrev Vals:List V->List Value->Prop:=l5 RelV
theorem Vals.length (r:Vals xs us):xs.length=us.length:=Paired.length r
theorem Vals.get:∀{a:List V} {b:List Value} {i:Nat} {x:V},Vals a b->a[i]?=Z9 x->∃u,b[i]?=Z9 u/\RelV x u
 |_,_,_,_,.nil,e=>by simp at e
 |_,_,0,_,.cons r _,e=>by simp at e;subst e;exact⟨_,rfl,r⟩
 |_,_,i+1,x,.cons _ t,e=>by obtain⟨u,c,d⟩:=Vals.get t (by simpa using e);exact⟨u,by simpa using c,d⟩
theorem Vals.set (r:RelV x u):∀{xs:List V} {us:List Value} i,Vals xs us->Vals (xs.set i x) (us.set i u)
 |_,_,_,.nil=>.nil
 |_,_,0,.cons _ t=>.cons r t
 |_,_,i+1,.cons q t=>.cons q (Vals.set r i t)
theorem Vals.append:∀{a b:List V} {c ws:List Value},Vals a c->Vals b ws->Vals (a++b) (c++ws)
 |_,_,_,_,.nil,s=>s
 |_,_,_,_,.cons r t,s=>.cons r (Vals.append t s)
theorem Vals.take:∀{a:List V} {b:List Value} n,Vals a b->Vals (a.take n) (b.take n)
 |_,_,0,_=>.nil
 |_,_,_+1,.nil=>.nil
 |_,_,n+1,.cons r t=>.cons r (Vals.take n t)
theorem Vals.drop:∀{a:List V} {b:List Value} n,Vals a b->Vals (a.drop n) (b.drop n)
 |_,_,0,r=>r
 |_,_,_+1,.nil=>.nil
 |_,_,n+1,.cons _ t=>Vals.drop n t
def dD:Option V->Option Value->Prop
 |some v,Z9 u=>RelV v u
 |none,Z8=>True
 |_,_=>False
def KV {κ:Type}:List (κ×V)->List (κ×Value)->Prop:=l5 λ(p:κ×V) (q:κ×Value)=>p.1=q.1/\RelV p.2 q.2
def kV:Key->V
 |.inl i=>.int i
 |.inr x=>.str x
inductive HO where
 |lst (xs:List V)
 |tup (xs:List V)
 |dK (kvs:List (Key×V))|dT (kvs:List (List Key×V))
 |set (S:Int->Bool) (n:Nat)
 |ins (C dx:Addr) (fs:List (Str×V))
 |own (x:Addr)
 |xd (fs:List (Str×V))
 |fN (o:Obj) (u:HO)
 |mE (ps:Array Value)
 |ext (φ:Heap->Prop)
abbrev Hp:=Addr->Option HO
def upd (H:Hp)(a:Addr)(o:HO):Hp:=λb=>if b=a then Z9 o else H b
theorem aT:upd H a o a=Z9 o:=by unfold upd;rw[ya rfl]
theorem aB (h:b≠a):upd H a o b=H b:=by unfold upd;rw[yb h]
theorem MB {H:Hp}(h:H a=Z9 o)(c:H b=Z9 u)(d:o≠u):a≠b:=by grind
theorem dE {H:Hp}(h:H a=Z9 o)(c:H b=Z8):a≠b:=by intro e;subst e;rw[h]at c;cases c
def TupN (h:Heap)(a:Addr)(l:Array Value):Prop:=∃n,h.get? a=Z9 {cls:=.type "tuple",data:=.seq l n}
theorem TupN.tup {h:Heap}{a:Addr}{l:Array Value}(x:TupN h a l):IsTup h a l:=let⟨n,q⟩:=x;⟨_,q,rfl,n,rfl⟩
theorem TupN.new (h:Heap)(l:Array Value):TupN (h.push {cls:=.type "tuple",data:=.seq l}) h.objs.size l:=⟨_,ax _ rfl⟩
def MC (h:Heap)(a:Addr)(l:Array Value):Prop:=∃o n,h.get? a=Z9 o/\o.cls=.type "tuple"/\o.dict=Z8/\o.data=.seq l n
section
variable (P:cg)(w:World)
def z1b (H:Hp)(h:Heap)(a:Addr):HO->Prop
 |.lst xs=>xs.length<=bh/\∃(its:List Value) (n:Nat),Vals xs its/\h.get? a=Z9 {cls:=.type "list",data:=.seq its.toArray n}
 |.tup xs=>xs.length<=bh/\∃its:List Value,Vals xs its/\TupN h a its.toArray
 |.dK kvs=>kvs.length<=bh/\(a==j9)=Z6/\∃vs,KV kvs vs/\h.DictOf (z0k P w) a vs
 |.dT kvs=>kvs.length<=bh/\(a==j9)=Z6/\∃xs:List (List Key×Addr×Value),
  l5 (λ(p:List Key×V) (q:List Key×Addr×Value)=>p.1=q.1/\H q.2.1=Z9 (.tup (p.1.map kV))/\RelV p.2 q.2.2) kvs xs/\
  ∃o es ep,h.get? a=Z9 o/\o.ExactDict/\o.data=.dict es ep/\es.toList=xs.map (entryOfKey (qu (z0k P w)))/\(xs.map (·.1)).Nodup
 |.set S n=>h.SetOf (ko P w) a S n
 |.ins C dx fs=>H dx=Z9 (.own a)/\fs.length<=1000/\dx≠a/\h.get? a=Z9 (W.instObj C dx)/\∃mA,h.Ns1 dx mA/\(∀f,dD (fs.lookup f) (mA f))/\PySem.Within mA (fs.map (·.1))
 |.own _=>∃o,h.get? a=Z9 o
 |.xd fs=>∃mA,h.Ns1 a mA/\∀f,dD (fs.lookup f) (mA f)
 |.fN o u=>h.get? a=Z9 o/\z1b H h a u
 |.mE ps=>h.get? a=Z9 {cls:=.none,data:=.fields ps}
 |.ext φ=>φ h/\(∃o,h.get? a=Z9 o)/\∀h1 h2:Heap,φ h1->(∀o,h1.get? a=Z9 o->h2.get? a=Z9 o)->φ h2
def HOk (H:Hp)(h:Heap):Prop:=∀a o,H a=Z9 o->z1b P w H h a o
end
section
variable {P:cg}{w:World}{H H':Hp}{h h':Heap}{a:Addr}{o:HO}
theorem z1b.lt (x:z1b P w H h a o):a<h.objs.size:=by
 cases o with
 |lst c=>obtain⟨_,_,_,_,e⟩:=x;exact bj e
 |tup c=>obtain⟨_,_,_,_,q⟩:=x;exact bj q
 |dK b=>obtain⟨_,_,_,_,o,_,_,e,_⟩:=x;exact bj e
 |dT b=>obtain⟨_,_,_,_,o,_,_,e,_⟩:=x;exact bj e
 |set S n=>obtain⟨o,_,_,_,e,_⟩:=x;exact bj e
 |ins C d fs=>obtain⟨_,_,_,e,_⟩:=x;exact bj e
 |own y=>obtain⟨_,e⟩:=x;exact bj e
 |xd fs=>obtain⟨_,⟨_,_,_,e,_⟩,_⟩:=x;exact bj e
 |fN f u=>obtain⟨e,_⟩:=x;exact bj e
 |mE ps=>exact bj x
 |ext g=>obtain⟨_,⟨_,e⟩,_⟩:=x;exact bj e
theorem Paired.qP {e g:Type}{F G:e->g->Prop}:∀{c:List e} {d:List g},l5 F c d->(∀a b,F a b->G a b)->l5 G c d
 |_,_,.nil,_=>.nil
 |_,_,.cons r t,f=>.cons (f _ _ r) (Paired.qP t f)
theorem z1b.stay (x:z1b P w H h a o)(k:∀b u,(b=a\/H b=Z9 (.own a))->h.get? b=Z9 u->h'.get? b=Z9 u)
  (ho:∀b,H b=Z9 (.own a)->H' b=Z9 (.own a)) (ht:∀b g,H b=Z9 (.tup g)->H' b=Z9 (.tup g)):z1b P w H' h' a o:=by
 induction o with
 |lst g=>obtain⟨z,i,n,r,e⟩:=x;exact⟨z,i,n,r,k _ _ (.inl rfl) e⟩
 |tup g=>obtain⟨z,l,r,n,q⟩:=x;exact⟨z,l,r,n,k _ _ (.inl rfl) q⟩
 |dK j=>obtain⟨z,y,s,r,f,es,ep,e,c⟩:=x;exact⟨z,y,s,r,f,es,ep,k _ _ (.inl rfl) e,c⟩
 |dT j=>obtain⟨z,y,g,r,f,es,ep,e,c⟩:=x;exact⟨z,y,g,Paired.qP r λp q z=>⟨z.1,ht _ _ z.2.1,z.2.2⟩,f,es,ep,k _ _ (.inl rfl) e,c⟩
 |set S n=>obtain⟨f,es,ep,t,e,c⟩:=x;exact⟨f,es,ep,t,k _ _ (.inl rfl) e,c⟩
 |ins C B fs=>obtain⟨d,z,ne,e,m,⟨od,es,ep,v,c⟩,r⟩:=x;exact⟨ho _ d,z,ne,k _ _ (.inl rfl) e,m,⟨od,es,ep,k _ _ (.inr d) v,c⟩,r⟩
 |own y=>obtain⟨f,e⟩:=x;exact⟨f,k _ _ (.inl rfl) e⟩
 |xd fs=>obtain⟨m,⟨od,es,ep,e,c⟩,r⟩:=x;exact⟨m,⟨od,es,ep,k _ _ (.inl rfl) e,c⟩,r⟩
 |fN f u A=>obtain⟨e,q⟩:=x;exact⟨k _ _ (.inl rfl) e,A q⟩
 |mE ps=>have e:h.get? a=Z9 {cls:=.none,data:=.fields ps}:=x;exact k a _ (.inl rfl) e
 |ext D=>obtain⟨p,⟨o,e⟩,st⟩:=x;exact⟨st _ _ p λo q=>k _ _ (.inl rfl) q,⟨o,k _ _ (.inl rfl) e⟩,st⟩
theorem HOk.lt (x:HOk P w H h)(e:H a=Z9 o):a<h.objs.size:=(x a o e).lt
theorem HOk.fresh (x:HOk P w H h)(e:h.objs.size<=a):H a=none:=by
 cases q:H a with
 |none=>rfl
 |some u=>exact absurd (cr (x.lt q) e) (dk _)
theorem HOk.kept (x:HOk P w H h)(k:∀b u,h.get? b=Z9 u->h'.get? b=Z9 u):HOk P w H h':=λa o e=>(x a o e).stay (λb u _ q=>k b u q) (λ_ q=>q) λ_ _ q=>q
theorem HOk.laid (x:HOk P w H h)(k:∀b u,h.get? b=Z9 u->h'.get? b=Z9 u)(d:h.objs.size<=a)(new:z1b P w (upd H a o) h' a o):HOk P w (upd H a o) h':=λb u e=>by
 have hn:=x.fresh d;by_cases hb:b=a
 .subst hb;rw[aT]at e;cases e;exact new
 .rw[aB hb]at e;exact(x b u e).stay (λc v _ q=>k c v q) (λc q=>by rw[aB (dE q hn)];exact q) λc f q=>by rw[aB (dE q hn)];exact q
end
def Rd (H:Hp)(a:Addr)(u:HO):Prop:=H a=Z9 u\/∃o,H a=Z9 (.fN o u)
theorem Rd.ok (r:Rd H a u)(x:HOk P w H h):z1b P w H h a u:=by
 rcases r with r|⟨o,r⟩
 .exact x a u r
 .obtain⟨_,q⟩:=x a _ r;exact q
def Mut:Option HO->Prop
 |some (.lst _)=>True
 |some (.dK _)=>True
 |some (.dT _)=>True
 |some (.set _ _)=>True
 |some (.ins _ _ _)=>True
 |some (.ext _)=>True
 |_=>False
section
variable {P:cg}{w:World}{H:Hp}{h h':Heap}{x e:Addr}{o':HO}
theorem HOk.write (ok:HOk P w H h)(mu:Mut (H x))(i:e=x\/H e=Z9 (.own x))(k:∀b u,b≠e->h.get? b=Z9 u->h'.get? b=Z9 u)(g:∃u,h'.get? e=Z9 u)
  (new:z1b P w (upd H x o') h' x o'):HOk P w (upd H x o') h':=λb u q=>by
 have d:∀c y,H c=Z9 (.own y)->c≠x:=λc y r z=>by subst z;rw[r]at mu;exact mu
 by_cases hb:b=x
 .subst hb;rw[aT]at q;cases q;exact new
 .rw[aB hb]at q;by_cases a:b=e
  .have j:H b=Z9 (.own x):=by
    rcases i with z|z
    .exact absurd (a.trans z) hb
    .rw[a];exact z
   rw[q]at j;cases j;obtain⟨v,m⟩:=g;exact⟨v,by rw[a];exact m⟩
  .refine(ok b u q).stay (λc v f r=>k c v ?_ r) (λc r=>by rw[aB (d c b r)];exact r) λc l r=>by rw[aB ((λc l r z=>by subst z;rw[r]at mu;exact mu) c l r)];exact r
   rcases f with rfl|f
   .exact a
   .rintro rfl
    rcases i with z|z
    .exact d c b f z
    .rw[f]at z;cases z;exact hb rfl
end
structure Un (fs ex:List Addr)(H H':Hp)(h h':Heap):Prop where
 keep:∀b o,h.get? b=Z9 o->H b=Z8->b∉fs->b∉ex->h'.get? b=Z9 o
 slot:∀b o,h.get? b=Z9 o->H b=Z8->b∈fs->b∉ex->∃sl,h'.get? b=Z9 {o with slots:=sl}
 free:∀b o,h.get? b=Z9 o->H b=Z8->b∉ex->H' b=Z8
 there:∀b o,h.get? b=Z9 o->b∉ex->∃o',h'.get? b=Z9 o'
 cG:∀b xs,H b=Z9 (.tup xs)->H' b=Z9 (.tup xs)
 cA:∀b o u,H b=Z9 (.fN o u)->H' b=Z9 (.fN o u)
 cH:∀b ps,H b=Z9 (.mE ps)->∃more,H' b=Z9 (.mE (ps++more))
section
variable {fs MD ex Xv:List Addr}{H H1 H2:Hp}{h h1 h2 h':Heap}{a x e:Addr}{o:HO}
theorem Un.any (u:Un fs ex H H1 h h1)(q:h.get? b=Z9 ob)(n:H b=Z8)(hx:b∉ex):∃sl,h1.get? b=Z9 {ob with slots:=sl}:=by
 by_cases hb:b∈fs
 .exact u.slot b ob q n hb hx
 .exact⟨ob.slots,u.keep b ob q n hb hx⟩
theorem Un.kept (k:∀b u,h.get? b=Z9 u->h'.get? b=Z9 u):Un fs ex H H h h':=⟨λb a q _ _ _=>k b a q,λb a q _ _ _=>⟨a.slots,k b a q⟩,λ_ _ _ n _=>n,λb a q _=>⟨a,k b a q⟩,λ_ _ q=>q,λ_ _ _ q=>q,λ_ ps q=>⟨#[],by rw[q];simp⟩⟩
theorem Un.refl:Un fs ex H H h h:=Un.kept λ_ _ q=>q
theorem Un.laid (k:∀b u,h.get? b=Z9 u->h'.get? b=Z9 u)(c:h.objs.size<=a)(hn:H a=Z8):Un fs ex H (upd H a o) h h' where
 keep:=λb u q _ _ _=>k b u q
 slot:=λb u q _ _ _=>⟨u.slots,k b u q⟩
 free:=λb u q n _=>by rw[aB (cu (cr (bj q) c))];exact n
 there:=λb u q _=>⟨u,k b u q⟩
 cG:=λb d q=>by rw[aB (dE q hn)];exact q
 cA:=λb u d q=>by rw[aB (dE q hn)];exact q
 cH:=λb ps q=>⟨#[],by rw[aB (dE q hn),q];simp⟩
theorem Un.write (mu:Mut (H x))(d:e=x\/H e=Z9 (.own x))(k:∀b u,b≠e->h.get? b=Z9 u->h'.get? b=Z9 u)(c:∃u,h'.get? e=Z9 u):Un fs ex H (upd H x o) h h':=by
 have hx:∀b,H b=Z8->b≠x:=λb n z=>by subst z;rw[n]at mu;exact mu
 have hb:∀b,H b=Z8->b≠e:=λb n z=>by
  subst z;rcases d with r|r
  .exact hx b n r
  .rw[n]at r;cases r
 have hm:∀b u,H b=Z9 u->¬Mut (Z9 u)->b≠x:=λb u q nm z=>by subst z;rw[q]at mu;exact nm mu
 refine⟨λb u q n _ _=>k b u (hb b n) q,λb u q n _ _=>⟨u.slots,k b u (hb b n) q⟩,λb u q n _=>by rw[aB (hx b n)];exact n,λb u q _=>?_,λb f q=>by rw[aB (hm b _ q λz=>z)];exact q,λb u f q=>by rw[aB (hm b _ q λz=>z)];exact q,λb ps q=>⟨#[],by rw[aB (hm b _ q λz=>z),q];simp⟩⟩;by_cases a:b=e
 .subst a;exact c
 .exact⟨u,k b u a q⟩
end
def BL (h:Heap)(H:Hp):List Addr:=(cc h.objs.size).filter λa=>(H a).isSome
def jE (h:Heap)(H:Hp):Heap:=W.hideAll h (BL h H)
theorem ME (h:Heap)(H:Hp):(jE h H).objs.size=h.objs.size:=W.hideAll_size _ _
theorem MF (e:h.get? b=Z9 o)(n:H b=Z8):(jE h H).get? b=Z9 o:=W.hideAll_get _ e λhm=>by have q:=(fm.mp hm).2;rw[n]at q;simp at q
theorem MG (e:(jE h H).get? b=Z9 o):h.get? b=Z9 o/\H b=none:=by
 have a:=W.of_hideAll (BL h H) e;refine⟨a,?_⟩;cases q:H b with
 |none=>rfl
 |some x=>have z:(jE h H).get? b=none:=W.hideAll_none (BL h H) (fm.mpr ⟨gf.mpr (bj a),by simp[q]⟩);rw[z]at e;cases e
def zP (g h:Heap)(L:Addr):List (Addr×Obj):=(cc h.objs.size).filterMap λa=>if a=L\/(g.get? a).isSome=Z7 then Z8 else(h.get? a).map λo=>(a,o)
theorem MH (c:a≠L)(d:g.get? a=Z8)(b:h.get? a=Z9 o):(a,o)∈zP g h L:=jz.mpr ⟨a,gf.mpr (bj b),by simp[c,d,b]⟩
theorem MI (a:p∈zP g h L):p.1≠L/\g.get? p.1=Z8/\h.get? p.1=Z9 p.2:=by
 obtain⟨b,_,e⟩:=jz.mp a;split at e
 .cases e
 .rename_i hn;cases q:h.get? b with
  |none=>rw[q]at e;simp at e
  |some u=>
   rw[q]at e;simp at e;subst e;refine⟨λz=>hn (.inl z),?_,q⟩;cases r:g.get? b with
   |none=>rfl
   |some v=>exact(hn (.inr (by simp[r]))).elim
def rest (g h:Heap)(L d:Addr):List (Addr×Obj):=(zP g h L).filter λp=>decide (p.1≠d)
theorem GJ:∀p∈rest g h L d,p.1≠d:=λp a=>ye (fm.mp a).2
theorem MJ (b:a≠L)(c:g.get? a=Z8)(e:h.get? a=Z9 o)(f:a≠d):(a,o)∈rest g h L d:=fm.mpr ⟨MH b c e,yf f⟩
theorem MK:News g L h (zP g h L):=λp d=>let⟨a,b,c⟩:=MI d;⟨c,a,b⟩
theorem mW (b:d≠L)(c:g.get? d=Z8)(e:h.get? d=Z9 o):News g L h ((d,o)::rest g h L d):=λp a=>by
 rcases au.mp a with rfl|a
 .exact⟨e,b,c⟩
 .exact MK p (fm.mp a).1
theorem z6w (k:∀b o,g.get? b=Z9 o->h.get? b=Z9 o)(F:Fr g L a m)(N:News g L a (rest g h L d)):
  ∀b o,b≠L->b≠d->h.get? b=Z9 o->a.get? b=Z9 o:=λb o c f e=>by
 cases q:g.get? b with
 |some u=>have:=k b u q;rw[e]at this;cases this;exact F.keep b _ q
 |none=>exact(N (b,o) (MJ c q e f)).1
structure Mod (K:Z5)(mg:Str->Option Value)(base:Heap):Prop where
 zQ:K.In base
 glob:base.Ns ce mg
 blt:∃mb,base.Ns xr mb/\∀x:Str,x≠"__name__"->mb x=db x
 nolimit:base.NoLimit
structure Cx where
 prog:cg
 w:World
 K:Z5
 mg:Str->Option Value
 base:Heap
 A:d8
 N:List Str
 s₀:aq
 gE:Hp
 env:Env
 outer:List Env
 stack:List Env
 ex:List Addr
 fn:Str->Bool
 calm:Bool
 pn:List (Addr×Obj)
 xe:Value->aq->Prop
 fx:List (Str×Value):=[]
def frs (l:List Env):List Addr:=l.filterMap (·.frame)
abbrev Cx.fs (X:Cx):List Addr:=frs X.outer
def Vis (sc:Scope)(x:Str):Prop:=sc.names.lookup x=Z9 .local\/sc.names.lookup x=Z9 .cell\/sc.names.lookup x=Z9 .free
def Loc (sc:Scope)(x:Str):Prop:=sc.names.lookup x=Z9 .local\/sc.names.lookup x=Z9 .cell
def Look (env:Env)(h:Heap)(m:Str->Option Value)(x:Str)(u:Value):Prop:=(env.kindOf x=Z9 .local/\m x=Z9 u)\/((env.kindOf x=Z9 .cell\/env.kindOf x=Z9 .free)/\∃c,env.cells.lookup x=Z9 c/\h.IsCell c (Z9 u))
def Sto (X:Cx)(x:Str):Prop:=(X.fn x=Z7\/X.env.scope.names.lookup x=Z9 .local)/\∀u,(x,u)∉X.fx
structure Cx.Ok (X:Cx):Prop where
 mod:Mod X.K X.mg X.base
 kind:X.env.scope.kind=.function
 glob:X.env.globals=ce
 blt:X.env.builtins=xr
 above:X.s₀.heap.objs.size<=X.env.locals
 inj:∀x y c,X.env.cells.lookup x=Z9 c->X.env.cells.lookup y=Z9 c->x=y
 has:∀x,(X.env.kindOf x=Z9 .cell\/X.env.kindOf x=Z9 .free)->∃c,X.env.cells.lookup x=Z9 c
 mX:∀x c,X.fn x=Z7->X.env.cells.lookup x=Z9 c->X.s₀.heap.objs.size<=c
 hd:X.calm=Z7->X.A.handled=Z8
 frames:X.A.frames=Z9 X.stack
 pJ:X.stack=X.outer\/(X.stack=X.env::X.outer/\X.env.frame=Z9 X.env.locals)
 gA:∀b∈X.ex,b≠X.env.locals/\∀x c,X.env.cells.lookup x=Z9 c->c≠b
 bs:∀b o,X.base.get? b=Z9 o->X.s₀.heap.get? b=Z9 o/\X.gE b=Z8
 iG:X.base.objs.size<=X.s₀.heap.objs.size
 fO:∀b o,X.base.get? b=Z9 o->b∉X.ex
 fP:∀b∈X.ex,b∉X.fs
 bV:X.s₀.heap.FunFrames X.base X.outer
 kU:∀b∈X.fs,X.gE b=Z8
 zR:∀x u,(x,u)∈X.fx->Vis X.env.scope x
structure Inv (X:Cx)(pins:List (Addr×Obj))(σ:List (Option V))(H:Hp)(s:aq):Prop where
 ok:X.Ok
 os:s.os=X.s₀.os
 bare:ph s.gens
 base:Un X.fs X.ex X.gE H X.s₀.heap s.heap
 loc:∃m,s.heap.Ns X.env.locals m/\∀(i:Nat) (x:Str) (v:V),X.N[i]?=Z9 x->σ[i]?=Z9 (Z9 v)->Vis X.env.scope x->∃u,RelV v u/\Look X.env s.heap m x u
 cell:∀x c,X.env.cells.lookup x=Z9 c->∃v,s.heap.IsCell c v
 free:H X.env.locals=Z8
 freeC:∀x c,X.env.cells.lookup x=Z9 c->H c=Z8
 pin:∀p∈X.pn++pins,s.heap.get? p.1=Z9 p.2/\H p.1=Z8/\p.1≠X.env.locals/\p.1∉X.fs/\∀v,p.2.data≠.cell v
 hok:HOk X.prog X.w H s.heap
 len:σ.length=X.N.length
 fx:∀x u,(x,u)∈X.fx->∃m,s.heap.Ns X.env.locals m/\Look X.env s.heap m x u
section
variable {X:Cx}{pins:List (Addr×Obj)}{σ:List (Option V)}{H H':Hp}{s:aq}{h':Heap}
theorem Cx.Ok.vZ (ok:X.Ok)(e:X.base.get? b=Z9 o):b∉X.fs:=λhb=>by have:=(ok.bV.mem hb).1;rw[e]at this;cases this
theorem Inv.bs (I:Inv X pins σ H s):∀b o,X.base.get? b=Z9 o->s.heap.get? b=Z9 o/\H b=none:=λb o e=>⟨I.base.keep b o (I.ok.bs b o e).1 (I.ok.bs b o e).2 (I.ok.vZ e) (I.ok.fO b o e),I.base.free b o (I.ok.bs b o e).1 (I.ok.bs b o e).2 (I.ok.fO b o e)⟩
theorem Inv.bk (I:Inv X pins σ H s):∀b o,X.base.get? b=Z9 o->s.heap.get? b=Z9 o:=λb o e=>(I.bs b o e).1
theorem Inv.mod (I:Inv X pins σ H s):Mod X.K X.mg X.base:=I.ok.mod
theorem Inv.dS (I:Inv X pins σ H s):X.K.In s.heap:=I.ok.mod.zQ.keeps I.bk
theorem Inv.fr (I:Inv X pins σ H s):∃m,Fr X.base X.env.locals s.heap m:=
 let⟨m,hn,_⟩:=I.loc
 ⟨m,hn,I.bk,bp I.ok.iG I.ok.above⟩
theorem Inv.lt (I:Inv X pins σ H s):X.env.locals<s.heap.objs.size:=let⟨_,hn,_⟩:=I.loc;hn.lt
theorem Inv.sz (I:Inv X pins σ H s):X.s₀.heap.objs.size<=s.heap.objs.size:=bp I.ok.above (kr I.lt)
theorem Inv.wB (I:Inv X pins σ H s)(h:s.heap.objs.size<=a):a∉X.fs:=λhb=>by obtain⟨_,o,ho,_⟩:=I.ok.bV.mem hb;exact absurd (cr (bj ho) (bp I.sz h)) (dk _)
theorem Inv.jF (I:Inv X pins σ H s):∀x c,X.env.cells.lookup x=Z9 c->c≠X.env.locals:=λx c e z=>by obtain⟨v,o,ho,hd⟩:=I.cell x c e;obtain⟨m,⟨d,es,ep,a,b,_⟩,_⟩:=I.loc;rw[z,a]at ho;cases ho;rw[b]at hd;cases hd
theorem Inv.bV (I:Inv X pins σ H s):s.heap.FunFrames X.base X.outer:=by
 have all:∀l,(∀b∈frs l,b∈X.fs)->X.s₀.heap.FunFrames X.base l->s.heap.FunFrames X.base l:=by
  intro l
  induction l with
  |nil=>intro _ _;trivial
  |cons env r c=>
   rintro hs ⟨hk,⟨L,o,hf,hn,ho,hd⟩,hr⟩
   have a:=hs L (by unfold frs;rw[dr,hf];exact bb);obtain⟨sl,e⟩:=I.base.slot L o ho (I.ok.kU L a) a λz=>I.ok.fP L z a;exact⟨hk,⟨L,_,hf,hn,e,hd⟩,c (λb hb=>hs b (by unfold frs;rw[dr,hf];exact ay _ hb)) hr⟩
 exact all X.outer (λ_ hb=>hb) I.ok.bV
theorem Inv.stack (I:Inv X pins σ H s):s.heap.FunFrames X.base X.stack:=by
 rcases I.ok.pJ with e|⟨e,hf⟩
 .rw[e];exact I.bV
 .rw[e];obtain⟨m,hn,_⟩:=I.loc;refine .cons (by rw[I.ok.kind];decide) hf hn ?_ I.bV;exact jk (bp I.ok.iG I.ok.above)
theorem Inv.fQ (I:Inv X pins σ H s):∀b∈frs X.stack,b∈X.env.locals::X.fs:=λb hb=>by
 rcases I.ok.pJ with e|⟨e,hf⟩
 .rw[e]at hb;simp_all
 .rw[e]at hb;unfold frs at hb;rw[dr,hf]at hb;exact hb
theorem Inv.fR (I:Inv X pins σ H s):∀b∈frs X.stack,H b=none:=λb hb=>by
 rcases au.mp (I.fQ b hb)with e|hb
 .rw[e];exact I.free
 .obtain⟨_,o,ho,_⟩:=I.ok.bV.mem hb;exact I.base.free b o ho (I.ok.kU b hb) λz=>I.ok.fP b z hb
theorem Inv.step {ch:List Addr}(I:Inv X pins σ H s)
  (f:∀b∈ch,(b∈X.ex\/X.s₀.heap.objs.size<=b)/\b≠X.env.locals/\(∀x c,X.env.cells.lookup x=Z9 c->c≠b)/\∀p∈X.pn++pins,p.1≠b)
  (keep:∀b o,b≠X.env.locals->b∉X.fs->b∉ch->s.heap.get? b=Z9 o->H b=Z8->h'.get? b=Z9 o)
  (slot:∀b o,b≠X.env.locals->b∈X.fs->b∉ch->s.heap.get? b=Z9 o->H b=Z8->∃sl,h'.get? b=Z9 {o with slots:=sl}) (free:∀b o,b∉ch->s.heap.get? b=Z9 o->H b=Z8->H' b=Z8)
  (there:∀b o,b∉ch->s.heap.get? b=Z9 o->∃y,h'.get? b=Z9 y)
  (cG:∀b t,H b=Z9 (.tup t)->H' b=Z9 (.tup t)) (cA:∀b o u,H b=Z9 (.fN o u)->H' b=Z9 (.fN o u)) (cH:∀b ps,H b=Z9 (.mE ps)->∃more,H' b=Z9 (.mE (ps++more)))
  (ns:∀m,s.heap.Ns X.env.locals m->h'.Ns X.env.locals m) (hok:HOk X.prog X.w H' h') (E:ph g'):
  Inv X pins σ H' {s with heap:=h',gens:=g',drawn:=d',toks:=t'}:=by
 have A:∀b o,X.s₀.heap.get? b=Z9 o->b≠X.env.locals:=λb o e=>cu (cr (bj e) I.ok.above)
 have h:∀b o,X.s₀.heap.get? b=Z9 o->b∉X.ex->b∉ch:=λb o e hx hb=>by
  rcases(f b hb).1 with z|z
  .exact hx z
  .exact absurd (cr (bj e) z) (dk _)
 have a:∀x c,X.env.cells.lookup x=Z9 c->∀v,s.heap.IsCell c v->h'.IsCell c v:=λx c e v ⟨o,ho,hd⟩=>by
  have g:=λz=>(f c z).2.2.1 x c e rfl;by_cases hc:c∈X.fs
  .obtain⟨sl,q⟩:=slot c o (I.jF x c e) hc g ho (I.freeC x c e);exact⟨_,q,hd⟩
  .exact⟨o,keep c o (I.jF x c e) hc g ho (I.freeC x c e),hd⟩
 refine⟨I.ok,I.os,E,⟨λb o e n hb hx=>?_,λb o e n hb hx=>?_,λb o e n hx=>?_,λb o e hx=>?_,λb t e=>cG b t (I.base.cG b t e),λb o t e=>cA b o t (I.base.cA b o t e),λb ps e=>?_⟩,?_,λx c e=>?_,?_,λx c e=>?_,λp D=>?_,hok,I.len,λx u e=>let⟨m,hn,q⟩:=I.fx x u e;⟨m,ns m hn,q.imp id λ⟨k,c,e,z⟩=>⟨k,c,e,a x c e _ z⟩⟩⟩
 .exact keep b o (A b o e) hb (h b o e hx) (I.base.keep b o e n hb hx) (I.base.free b o e n hx)
 .obtain⟨sl,j⟩:=I.base.slot b o e n hb hx;obtain⟨C,B⟩:=slot b _ (A b o e) hb (h b o e hx) j (I.base.free b o e n hx);exact⟨C,B⟩
 .obtain⟨y,j⟩:=I.base.there b o e hx;exact free b y (h b o e hx) j (I.base.free b o e n hx)
 .obtain⟨y,j⟩:=I.base.there b o e hx;exact there b y (h b o e hx) j
 .obtain⟨F,j⟩:=I.base.cH b ps e;obtain⟨G,B⟩:=cH b _ j;exact⟨F++G,by rw[B,vg]⟩
 .obtain⟨m,hn,hl⟩:=I.loc;refine⟨m,ns m hn,λi x v j B J=>?_⟩;obtain⟨u,r,l⟩:=hl i x v j B J;refine⟨u,r,?_⟩;rcases l with l|⟨k,c,e,z⟩
  .exact .inl l
  .exact .inr ⟨k,c,e,a x c e _ z⟩
 .obtain⟨v,z⟩:=I.cell x c e;exact⟨v,a x c e v z⟩
 .obtain⟨m,⟨o,_,_,ho,_⟩,_⟩:=I.loc;exact free _ o (λz=>(f _ z).2.1 rfl) ho I.free
 .obtain⟨v,o,ho,hd⟩:=I.cell x c e;exact free c o (λz=>(f c z).2.2.1 x c e rfl) ho (I.freeC x c e)
 .obtain⟨e,n,ne,nf,d⟩:=I.pin p D;have g:=λz=>(f p.1 z).2.2.2 p D rfl;exact⟨keep p.1 p.2 ne nf g e n,free p.1 p.2 g e n,ne,nf,d⟩
theorem Inv.un (I:Inv X pins σ H s)(u:Un X.fs [] H H' s.heap h')(hok:HOk X.prog X.w H' h'):Inv X pins σ H' {s with heap:=h',toks:=t'}:=by obtain⟨m,⟨o,es,ep,ho,r⟩,_⟩:=id I.loc;obtain⟨sl,f⟩:=u.any ho I.free (by simp);exact I.step (ch:=[]) (λ_ z=>nomatch z) (λb o _ hb _ e n=>u.keep b o e n hb (by simp)) (λb o _ hb _ e n=>u.slot b o e n hb (by simp)) (λb o _ e n=>u.free b o e n (by simp)) (λb o _ e=>u.there b o e (by simp)) u.cG u.cA u.cH (λh ⟨i,c,d,a,g⟩=>by rw[ho]at a;cases a;exact⟨_,c,d,f,g⟩) hok I.bare
theorem Inv.call (I:Inv X pins σ H s)(u:Un (frs X.stack) ch H H' s.heap h')(hok:HOk X.prog X.w H' h')(j:ph k)
  (d:∀b∈ch,(b∈X.ex\/X.s₀.heap.objs.size<=b)/\b≠X.env.locals/\(∀x c,X.env.cells.lookup x=Z9 c->c≠b)/\∀p∈X.pn++pins,p.1≠b):
  Inv X pins σ H' {s with heap:=h',gens:=k,drawn:=d',toks:=t'}:=by
 obtain⟨m,⟨o,es,ep,ho,r⟩,_⟩:=id I.loc;obtain⟨sl,g⟩:=u.any ho I.free λz=>(d _ z).2.1 rfl;exact I.step d (λb o g hb a e n=>u.keep b o e n (λz=>(au.mp (I.fQ b z)).elim g hb) a) (λb o _ _ a e n=>u.any e n a) (λb o a e n=>u.free b o e n a) (λb o a e=>u.there b o e a) u.cG u.cA u.cH (λq ⟨t,h,i,f,l⟩=>by rw[ho]at f;cases f;exact⟨_,h,i,g,l⟩) hok j
theorem Inv.turned (I:Inv X pins σ H s)(k:∀b o,b≠a->s.heap.get? b=Z9 o->h'.get? b=Z9 o)(hn:H a=Z8)(g:a≠X.env.locals)
  (h:a∈X.ex\/X.s₀.heap.objs.size<=a) (i:∀x c,X.env.cells.lookup x=Z9 c->c≠a) (j:∀p∈X.pn++pins,p.1≠a):Inv X pins σ H {s with heap:=h',toks:=t'}:=by
 have f:∀b u,H b=Z9 u->b≠a:=λb u e z=>by rw[z,hn]at e;cases e
 refine I.step (ch:=[a]) (λb hb=>?_) (λb o _ _ d e _=>k b o (λz=>d (by simp[z])) e) (λb o _ _ d e _=>⟨o.slots,k b o (λz=>d (by simp[z])) e⟩) (λ_ _ _ _ n=>n) (λb o d e=>⟨o,k b o (λz=>d (by simp[z])) e⟩) (λ_ _ e=>e) (λ_ _ _ e=>e) (λb ps e=>⟨#[],by rw[e];simp⟩) (λm hm=>?_) (λb u e=>?_) I.bare
 .have e:b=a:=by simpa using hb
  subst e;exact⟨h,g,i,j⟩
 .obtain⟨o,es,ep,ho,r⟩:=hm;exact⟨o,es,ep,k _ o (Ne.symm g) ho,r⟩
 .refine(I.hok b u e).stay (λc v d q=>k c v ?_ q) (λ_ q=>q) λ_ _ q=>q;rcases d with z|z
  .rw[z];exact f b u e
  .exact f c _ z
theorem Inv.tok (I:Inv X pins σ H s)(t:Nat):Inv X pins σ H {s with toks:=t}:=I.un (h':=s.heap) (t':=t) Un.refl I.hok
theorem Inv.kept (I:Inv X pins σ H s)(k:∀b u,s.heap.get? b=Z9 u->h'.get? b=Z9 u):Inv X pins σ H {s with heap:=h',toks:=t'}:=I.un (Un.kept k) (I.hok.kept k)
theorem Inv.laid (I:Inv X pins σ H s)(k:∀b u,s.heap.get? b=Z9 u->h'.get? b=Z9 u)(c:s.heap.objs.size<=a)(new:z1b X.prog X.w (upd H a o) h' a o): Inv X pins σ (upd H a o) {s with heap:=h',toks:=t'}:=I.un (Un.laid k c (I.hok.fresh c)) (I.hok.laid k c new)
theorem Inv.write (I:Inv X pins σ H s)(mu:Mut (H x))(c:e=x\/H e=Z9 (.own x))(k:∀b u,b≠e->s.heap.get? b=Z9 u->h'.get? b=Z9 u)(a:∃u,h'.get? e=Z9 u) (new:z1b X.prog X.w (upd H x o) h' x o):Inv X pins σ (upd H x o) {s with heap:=h',toks:=t'}:=I.un (Un.write mu c k a) (I.hok.write mu c k a new)
theorem Inv.weak (I:Inv X pins σ H s)(hl:a.length=σ.length)(w:∀(i:Nat) v,a[i]?=Z9 (Z9 v)->σ[i]?=Z9 (Z9 v)):Inv X pins a H s:=⟨I.ok,I.os,I.bare,I.base,let⟨m,hn,ML⟩:=I.loc;⟨m,hn,λi x v b c d=>ML i x v b (w i v c) d⟩,I.cell,I.free,I.freeC,I.pin,I.hok,hl.trans I.len,I.fx⟩
theorem Inv.fT (I:Inv X pins σ H s)(h:∀p∈dU,s.heap.get? p.1=Z9 p.2/\H p.1=Z8/\p.1≠X.env.locals/\p.1∉X.fs/\∀v,p.2.data≠.cell v):Inv X dU σ H s:=⟨I.ok,I.os,I.bare,I.base,I.loc,I.cell,I.free,I.freeC,λp a=>(bw.mp a).elim (λz=>I.pin p (bz _ z)) (h p),I.hok,I.len,I.fx⟩
theorem GK {h:Heap}(x:h.Ns a m)(y:h.Ns a g)(n:Str):m n=g n:=by obtain⟨o,es,ep,e,d,_,f⟩:=x;obtain⟨l,i,j,b,c,_,k⟩:=y;rw[e]at b;cases b;rw[d]at c;cases c;rw[<-f n,k n]
theorem BM {N:List Str}(hN:N.Nodup){j:Nat}(a:N[i]?=Z9 x)(b:N[j]?=Z9 x):i=j:=by obtain⟨e,c⟩:=ba.mp a;obtain⟨f,d⟩:=ba.mp b;exact(List.getElem_inj hN).mp (c.trans d.symm)
theorem z3s (I:Inv X pins σ H s)(hN:X.N.Nodup)(J:X.N[i]?=Z9 x)(hx:Loc X.env.scope x)(r:RelV v u)
  (h:∀T,Inv X pins (σ.set i (Z9 v)) H T->(∃a,ci a s.heap T.heap/\(a=X.env.locals\/X.env.cells.lookup x=Z9 a))->Q () T) (hf:Sto X x:=by first|exact⟨.inl rfl,nofun⟩|exact⟨.inr rfl,nofun⟩|assumption):wpAny M A (storeName X.env x u) Q E s:=by
 obtain⟨m,hn,hl⟩:=id I.loc;have B:i<σ.length:=I.len▸(ba.mp J).1;have jF:=I.jF
 have f:∀{a:Addr} {h':Heap},(∃o,s.heap.get? a=Z9 o/\H a=Z8)->ci a s.heap h'->HOk X.prog X.w H h':=λ{a h'} ha hs b ob e=>by
  obtain⟨_,_,l⟩:=ha;refine(I.hok b ob e).stay (λc S hc q=>(hs.2 c ?_).trans q) (λ_ q=>q) λ_ _ q=>q
  rintro rfl
  rcases hc with rfl|hc
  .rw[l]at e;cases e
  .rw[l]at hc;cases hc
 rcases hx with hk|hk
 .refine wpAny_storeName_local hk hn (λh' K hs=>?_) (by rw[I.ok.kind];rfl);obtain⟨oL,_,_,U,_⟩:=id hn;refine h _ ⟨I.ok,I.os,I.bare,⟨λb o e n hb hx=>?_,λb o e n hb hx=>?_,I.base.free,λb o e hx=>?_,I.base.cG,I.base.cA,I.base.cH⟩,⟨_,K,λj y V g t W=>?_⟩,λy c e=>?_,I.free,I.freeC,λp Y=>?_,f ⟨oL,U,I.free⟩ hs,by simpa using I.len,λy u e=>by obtain⟨m',C,q⟩:=I.fx y u e;refine⟨_,K,q.imp (λq=>⟨q.1,?_⟩) λ⟨k,c,e,z⟩=>⟨k,c,e,z.sameBut hs (jF y c e)⟩⟩;have hy:y≠x:=λz=>hf.2 u (z▸e);have:=GK hn C y;simp[hy,this,q.2]⟩ ⟨_,hs,.inl rfl⟩
  .exact(hs.2 b (cu (cr (bj e) I.ok.above))).trans (I.base.keep b o e n hb hx)
  .obtain⟨sl,g⟩:=I.base.slot b o e n hb hx;exact⟨sl,(hs.2 b (cu (cr (bj e) I.ok.above))).trans g⟩
  .obtain⟨o',g⟩:=I.base.there b o e hx;exact⟨o',(hs.2 b (cu (cr (bj e) I.ok.above))).trans g⟩
  .by_cases D:j=i
   .subst D;rw[J]at g;cases g;rw[dm B]at t;cases t;exact⟨u,r,.inl ⟨hk,by simp⟩⟩
   .rw[df (Ne.symm D)]at t;obtain⟨u',r',q⟩:=hl j y V g t W;refine⟨u',r',?_⟩;rcases q with⟨k,e⟩|⟨k,c,e,z⟩
    .refine .inl ⟨k,?_⟩;have:y≠x:=λe=>D (BM hN g (e▸J));simp[this,e]
    .exact .inr ⟨k,c,e,z.sameBut hs (jF y c e)⟩
  .obtain⟨S,z⟩:=I.cell y c e;exact⟨S,z.sameBut hs (jF y c e)⟩
  .obtain⟨e,n,ne,nf,d⟩:=I.pin p Y;exact⟨(hs.2 p.1 ne).trans e,n,ne,nf,d⟩
 .have F:X.fn x=true:=by
   rcases hf.1 with z|z
   .exact z
   .rw[z]at hk;cases hk
  obtain⟨c,hc⟩:=I.ok.has x (.inl hk);obtain⟨S,z⟩:=I.cell x c hc;refine wpAny_storeName_cell I.ok.kind hk hc z (λh' L hs=>?_);obtain⟨oc,O,P⟩:=id z;refine h {s with heap:=h'} ⟨I.ok,I.os,I.bare,⟨λb o e n hb hx=>?_,λb o e n hb hx=>?_,I.base.free,λb o e hx=>?_,I.base.cG,I.base.cA,I.base.cH⟩,⟨m,hn.sameBut hs (Ne.symm (jF x c hc)),λj y V g t W=>?_⟩,λy G e=>?_,I.free,I.freeC,λp Y=>?_,f ⟨oc,O,I.freeC x c hc⟩ hs,by simpa using I.len,λy u e=>let⟨m',C,q⟩:=I.fx y u e;⟨m',C.sameBut hs (Ne.symm (jF x c hc)),q.imp id λ⟨k,G,e',z⟩=>⟨k,G,e',z.sameBut hs λz'=>hf.2 u (I.ok.inj y x G e' (z'▸hc)▸e)⟩⟩⟩ ⟨c,hs,.inr hc⟩
  .exact(hs.2 b (cu (cr (bj e) (I.ok.mX x c F hc)))).trans (I.base.keep b o e n hb hx)
  .obtain⟨sl,g⟩:=I.base.slot b o e n hb hx;exact⟨sl,(hs.2 b (cu (cr (bj e) (I.ok.mX x c F hc)))).trans g⟩
  .obtain⟨o',g⟩:=I.base.there b o e hx;exact⟨o',(hs.2 b (cu (cr (bj e) (I.ok.mX x c F hc)))).trans g⟩
  .by_cases D:j=i
   .subst D;rw[J]at g;cases g;rw[dm B]at t;cases t;exact⟨u,r,.inr ⟨.inl hk,c,hc,L⟩⟩
   .rw[df (Ne.symm D)]at t;obtain⟨u',r',q⟩:=hl j y V g t W;refine⟨u',r',?_⟩;rcases q with q|⟨k,G,e,z'⟩
    .exact .inl q
    .refine .inr ⟨k,G,e,z'.sameBut hs ?_⟩
     rintro rfl
     exact D (BM hN g (I.ok.inj _ _ _ e hc▸J))
  .by_cases R:G=c
   .subst R;exact⟨_,L⟩
   .obtain⟨w2,z2⟩:=I.cell y G e;exact⟨w2,z2.sameBut hs R⟩
  .obtain⟨e,n,ne,nf,d⟩:=I.pin p Y;refine⟨(hs.2 p.1 ?_).trans e,n,ne,nf,d⟩;intro q;rw[q,O]at e;exact d S (yc e▸P)
theorem z57 (I:Inv X pins σ H s)(hN:X.N.Nodup)(b:X.N[i]?=Z9 x)(hx:Loc X.env.scope x)(r:RelV v u)
  (h:∀a,Inv X pins (σ.set i (Z9 v)) H a->Q () a) (hf:Sto X x:=by first|exact⟨.inl rfl,nofun⟩|exact⟨.inr rfl,nofun⟩|assumption):wpAny M A (storeName X.env x u) Q E s:=
 z3s I hN b hx r (λa c _=>h a c) hf
theorem Inv.call' (I:Inv X pins σ H s)(ho:a.os=s.os)(u:Un (frs X.stack) e H H' s.heap a.heap)(hok:HOk X.prog X.w H' a.heap)(f:ph a.gens)
  (d:∀b∈e,(b∈X.ex\/X.s₀.heap.objs.size<=b)/\b≠X.env.locals/\(∀x c,X.env.cells.lookup x=Z9 c->c≠b)/\∀p∈X.pn++pins,p.1≠b):Inv X pins σ H' a:=by
 obtain⟨h',g,h,i,j⟩:=a;subst ho;exact I.call u hok f d
end
abbrev XK:=Value->Option Addr->Hp->Prop
abbrev St:=List (Option V)
abbrev VK:=V->Hp->Prop
abbrev TE:=St->Hp->VK->Prop
abbrev TT:=St->Hp->(Bool->Hp->Prop)->Prop
abbrev TA:=St->Hp->(List V->Hp->Prop)->Prop
structure Ends where
 nx:St->Hp->Prop
 rt:VK
 bk:St->Hp->Prop:=λ_ _=>False
 ct:St->Hp->Prop:=λ_ _=>False
abbrev TS:=Ends->St->Hp->Prop
def EP (X:Cx)(pins:List (Addr×Obj))(σ:St)(Q:VK)(u:Value)(s':aq):Prop:=∃v H',Inv X pins σ H' s'/\RelV v u/\Q v H'
def TP (X:Cx)(pins:List (Addr×Obj))(σ:St)(Q:Bool->Hp->Prop)(b:Bool)(s':aq):Prop:=∃H',Inv X pins σ H' s'/\Q b H'
def AP (X:Cx)(pins:List (Addr×Obj))(σ:St)(Q:List V->Hp->Prop)(us:List Value)(s':aq):Prop:=∃vs H',Inv X pins σ H' s'/\Vals vs us/\Q vs H'
def SP (X:Cx)(pins:List (Addr×Obj))(D:Ends)(f:Flow)(s':aq):Prop:=
 match f with
 |.next=>∃σ' H',Inv X pins σ' H' s'/\D.nx σ' H'
 |.brk=>∃σ' H',Inv X pins σ' H' s'/\D.bk σ' H'
 |.cont=>∃σ' H',Inv X pins σ' H' s'/\D.ct σ' H'
 |.ret u=>∃v σ' H',Inv X pins σ' H' s'/\RelV v u/\D.rt v H'
def PE (X:Cx)(e:Expr)(t:TE):Prop:=∀(pins:List (Addr×Obj)) (s:aq) (σ:St) (H:Hp) (Q:VK),Inv X pins σ H s->t σ H Q->wpAny (model X.prog X.w) X.A (eval e X.env) (EP X pins σ Q) X.xe s
def PT (X:Cx)(e:Expr)(t:TT):Prop:=∀(pins:List (Addr×Obj)) (s:aq) (σ:St) (H:Hp) (Q:Bool->Hp->Prop),Inv X pins σ H s->t σ H Q->wpAny (model X.prog X.w) X.A (xl e X.env (eval e X.env)) (TP X pins σ Q) X.xe s
def PW (X:Cx)(e:Expr)(t:TT):Prop:=∀(whole:Sem Value) (pins:List (Addr×Obj)) (s:aq) (σ:St) (H:Hp) (Q:Bool->Hp->Prop),Inv X pins σ H s->t σ H Q->wpAny (model X.prog X.w) X.A (xl e X.env whole) (TP X pins σ Q) X.xe s
theorem PW.pt (h:PW X e t):PT X e t:=h _
def PA (X:Cx)(es:List Expr)(t:TA):Prop:=∀(pos:Pos) (pins:List (Addr×Obj)) (s:aq) (σ:St) (H:Hp) (Q:List V->Hp->Prop),Inv X pins σ H s->t σ H Q->wpAny (model X.prog X.w) X.A (spliced (ow pos (fq es X.env))) (AP X pins σ Q) X.xe s
def PS (X:Cx)(st:Stmt)(t:TS):Prop:=∀(pins:List (Addr×Obj)) (s:aq) (σ:St) (H:Hp) (D:Ends),Inv X pins σ H s->t D σ H->wpAny (model X.prog X.w) X.A (exec st X.env) (SP X pins D) X.xe s
def PSs (X:Cx)(st:List Stmt)(t:TS):Prop:=∀(pins:List (Addr×Obj)) (s:aq) (σ:St) (H:Hp) (D:Ends),Inv X pins σ H s->t D σ H->wpAny (model X.prog X.w) X.A (execs st X.env) (SP X pins D) X.xe s
theorem aI (h:wpAny M A t Q E s)(b:∀a s,Q a s->c a s):wpAny M A t c E s:=gq h b λ_ _ x=>x
section
variable {X:Cx}
theorem bin (ha:PE X a m)(hb:PE X b n){R:V->V->Hp->Prop}(I:Inv X c e H s)(h:m e H fun x k=>n e k fun y d=>R x y d)
  {l:Type} {Q:l->aq->Prop} {f:Value->Value->Sem l}
  (hf:∀v u j x y d,Inv X c e d j->RelV x v->RelV y u->R x y d->wpAny (model X.prog X.w) X.A (f v u) Q X.xe j):
  wpAny (model X.prog X.w) X.A (eval a X.env) (λv g=>wpAny (model X.prog X.w) X.A (eval b X.env) (λu i=>wpAny (model X.prog X.w) X.A (f v u) Q X.xe i) X.xe g) X.xe s:=by
 exact aI (ha c s e H _ I h) λv o ⟨x,k,p,q,r⟩=>aI (hb c o e k _ p r) λu j ⟨y,d,t,z,B⟩=>hf v u j x y d t q z B
def wC (i:Nat):TE:=λσ H Q=>∃v,σ[i]?=Z9 (Z9 v)/\Q v H
def tC (v:V):TE:=λ_ H Q=>Q v H
theorem qQ (hN:X.N[i]?=Z9 x)(j:Vis X.env.scope x)(hd:XX x:=by decide)(f:(x==("__classdict__":Str))=false:=by decide):PE X (.Name x pos) (wC i):=by
 rintro d s k H Q I ⟨v,e,h⟩
 obtain⟨m,hn,hl⟩:=I.loc;obtain⟨u,r,l⟩:=hl i x v hN e j;have b:EP X d k Q u s:=⟨v,H,I,r,h⟩;rcases l with⟨hk,hm⟩|⟨hk,c,g,a⟩
 .exact vh (tq I.ok.kind hk hn hm b) hd
 .rcases hk with hk|hk
  .exact vh (wpAny_loadName_cell I.ok.kind hk g a b) hd
  .exact vh (wpAny_loadName_free I.ok.kind hk g a b f) hd
theorem MM {i j pos}:PE X (.Constant (.int i) j pos) (tC (.int i)):=λ_ _ _ H _ I h=>wpAny_Constant_int ⟨.int i,H,I.tok _,⟨_,rfl⟩,h⟩
theorem MN {b j pos}:PE X (.Constant (.bool b) j pos) (tC (.bl b)):=λ_ _ _ H _ I h=>Constant_bool ⟨.bl b,H,I,rfl,h⟩
theorem MO {j pos}:PE X (.Constant .none j pos) (tC .non):=λ_ _ _ H _ I h=>ur ⟨.non,H,I,rfl,h⟩
theorem GL {x j pos}:PE X (.Constant (.str x) j pos) (tC (.str x)):=λ_ _ _ H _ I h=>Calls.Constant_str ⟨.str x,H,I.tok _,⟨_,rfl⟩,h⟩
def Gl (X:Cx)(x:Str):Prop:=X.env.kindOf x=Z9 .globalImplicit
theorem z3v (I:Inv X a c H s)(b:Gl X x)(hm:X.mg x=Z9 u)(h:Q u s)
  (hd:XX x:=by decide):wpAny (model X.prog X.w) X.A (eval (.Name x pos) X.env) Q E s:=
 ke I.ok.kind b (qv (I.ok.glob▸I.mod.glob.keeps I.bk) hm h) hd
theorem z2d (I:Inv X a f H s)(b:Gl X x)(hm:X.mg x=Z8)(c:db x=Z9 u)(h:Q u s)
  (hn:x≠"__name__":=by decide) (hd:XX x:=by decide):wpAny (model X.prog X.w) X.A (eval (.Name x pos) X.env) Q E s:=by
 obtain⟨g,d,e⟩:=I.mod.blt;exact ke I.ok.kind b (Calls.loadGlobal_builtin (I.ok.glob▸I.mod.glob.keeps I.bk) hm (I.ok.blt▸d.keeps I.bk) ((e x hn).trans c) h) hd
theorem MP (a:Gl X x)(hm:X.mg x=Z8)(b:db x=Z9 u)(r:RelV v u)(hn:x≠"__name__":=by decide)(hd:XX x:=by decide):PE X (.Name x pos) (tC v):=λ_ _ _ H _ I h=>z2d I a hm b ⟨v,H,I,r,h⟩ hn hd
variable {a b:Expr}{ta tb:TE}{pos:Pos}
def PC (X:Cx)(op:CmpOp)(a b:Expr)(t:TE):Prop:=∀(pins:List (Addr×Obj)) (s:aq) (σ:St) (H:Hp) (Q:VK),Inv X pins σ H s->t σ H Q->wpAny (model X.prog X.w) X.A (eval a X.env) (λv qR=>wpAny (model X.prog X.w) X.A (eval b X.env) (λu qS=>wpAny (model X.prog X.w) X.A (ge op v u) (EP X pins σ Q) X.xe qS) X.xe qR) X.xe s
theorem MQ (b:Expr)(h:op≠.In)(a:op≠.NotIn):gh op b=false:=by
 have c:(op==CmpOp.In)=false:=by cases op<;>first|rfl|exact absurd rfl h
 have d:(op==CmpOp.NotIn)=false:=by cases op<;>first|rfl|exact absurd rfl a
 cases b<;>simp[gh,c,d]
def wD (ta:TE):TE:=λσ H Q=>ta σ H λx H1=>Q (.bl (decide (x=.non))) H1
def GN (ta:TE):TE:=λσ H Q=>ta σ H λx H1=>Q (.bl (!decide (x=.non))) H1
theorem RelV.gF (r:RelV x v):(v==Value.none)=decide (x=.non):=by
 cases x with
 |non=>cases r;rfl
 |bl _=>cases r;rfl
 |int _=>obtain⟨t,rfl⟩:=r;rfl
 |str _=>obtain⟨t,rfl⟩:=r;rfl
 |ref _=>cases r;rfl
 |ty _=>cases r;rfl
theorem MR {j pos'}(ha:PE X a ta):PC X .Is a (.Constant .none j pos') (wD ta):=by intro pins s σ H Q I h;exact aI (ha pins s σ H _ I h) λv s1 ⟨x,H1,I1,r1,q1⟩=>ur (is_none_gen ⟨.bl _,H1,I1,by rw[r1.gF];rfl,q1⟩)
theorem MS {j pos'}(ha:PE X a ta):PC X .IsNot a (.Constant .none j pos') (GN ta):=by intro pins s σ H Q I h;exact aI (ha pins s σ H _ I h) λv s1 ⟨x,H1,I1,r1,q1⟩=>ur (isnot_none_gen ⟨.bl _,H1,I1,by rw[r1.gF];rfl,q1⟩)
def tB (t:TE):TT:=λσ H Q=>t σ H λx H1=>∃c,x=.bl c/\Q c H1
theorem GO (h:PC X op a b t)(f:gh op b=false:=by first|exact MQ _ dc dc|rfl):PT X (.Compare a [op] [b] pos) (tB t):=by intro e s g H Q I i;refine tm (aI (h e s g H _ I i) λv o f=>aI f λu p j=>aI j λc r ⟨x,k,l,m,n⟩=>?_) f;obtain⟨d,rfl,q⟩:=n;cases m;exact il ⟨k,l,q⟩
variable {tA zS:TT}{rest:List Expr}
def BN (t u:TT):TT:=λσ H Q=>t σ H λc H1=>if c=Z7 then u σ H1 Q else Q Z6 H1
def MT (t u:TT):TT:=λσ H Q=>t σ H λc H1=>if c=Z7 then Q Z7 H1 else u σ H1 Q
def wF (t:TT):TT:=λσ H Q=>t σ H λc H1=>Q (!c) H1
theorem MU (ha:PT X a tA):PW X (.BoolOp .And [a] pos) tA:=by
 intro f b s d H Q I h;refine isTrue_and (aI (ha b s d H Q I h) λc g e=>?_);cases c with
 |true=>exact isTrue_and_nil e
 |false=>exact e
theorem MV (ha:PT X a tA):PW X (.BoolOp .Or [a] pos) tA:=by
 intro f b s d H Q I h;refine isTrue_or (aI (ha b s d H Q I h) λc g e=>?_);cases c with
 |false=>exact isTrue_or_nil e
 |true=>exact e
theorem MW (ha:PT X a tA)(hb:PW X (.BoolOp .And (b::rest) pos) zS):PW X (.BoolOp .And (a::b::rest) pos) (BN tA zS):=by
 intro j d s e H Q I h;refine isTrue_and (aI (ha d s e H _ I h) λc k ⟨f,g,i⟩=>?_);cases c with
 |true=>exact hb j d k e f Q g i
 |false=>exact⟨f,g,i⟩
theorem MX (ha:PT X a tA)(hb:PW X (.BoolOp .Or (b::rest) pos) zS):PW X (.BoolOp .Or (a::b::rest) pos) (MT tA zS):=by
 intro j d s e H Q I h;refine isTrue_or (aI (ha d s e H _ I h) λc k ⟨f,g,i⟩=>?_);cases c with
 |true=>exact⟨f,g,i⟩
 |false=>exact hb j d k e f Q g i
theorem GP (ha:PT X a tA):PT X (.UnaryOp .Not a pos) (wF tA):=by intro b s d H Q I h;exact isTrue_not (ha b s d H (λc e=>Q (!c) e) I h)
def GQ (ta tb:TE):TE:=λσ H Q=>ta σ H λx H1=>∃c,x=.bl c/\if c=Z7 then tb σ H1 Q else Q (.bl Z6) H1
def BO (ta tb:TE):TE:=λσ H Q=>ta σ H λx H1=>∃c,x=.bl c/\if c=Z7 then Q (.bl Z7) H1 else tb σ H1 Q
theorem BP {op}(h:PE X a t):PE X (.BoolOp op [a] pos) t:=λb s c H Q I d=>BoolOp_one (h b s c H Q I d)
theorem BQ (ha:PE X a ta)(hb:PE X (.BoolOp .And (b::rest) pos) tb):PE X (.BoolOp .And (a::b::rest) pos) (GQ ta tb):=by
 intro d s f H Q I h;refine BoolOp_and (aI (ha d s f H _ I h) λv j ⟨x,g,i,k,e⟩=>?_);obtain⟨c,rfl,e⟩:=e;cases k;refine il ?_;cases c with
 |true=>exact hb d j f g Q i e
 |false=>exact⟨.bl Z6,g,i,rfl,e⟩
theorem MY (ha:PE X a ta)(hb:PE X (.BoolOp .Or (b::rest) pos) tb):PE X (.BoolOp .Or (a::b::rest) pos) (BO ta tb):=by
 intro d s f H Q I h;refine BoolOp_or (aI (ha d s f H _ I h) λv j ⟨x,g,i,k,e⟩=>?_);obtain⟨c,rfl,e⟩:=e;cases k;refine il ?_;cases c with
 |false=>exact hb d j f g Q i e
 |true=>exact⟨.bl Z7,g,i,rfl,e⟩
def MZ (t:TT)(ta tb:TE):TE:=λσ H Q=>t σ H λc H1=>if c=Z7 then ta σ H1 Q else tb σ H1 Q
theorem M0 (l:PT X c tA)(ha:PE X a ta)(hb:PE X b tb):PE X (.IfExp c a b pos) (MZ tA ta tb):=by
 intro e s f H Q I h;refine wpAny_IfExp (aI (l e s f H _ I h) λd g ⟨i,j,k⟩=>?_);cases d with
 |true=>exact ha e g f i Q j k
 |false=>exact hb e g f i Q j k
end
def SqL (K:Z5)(H:Hp)(a:Addr)(xs:List V):Prop:=Rd H a (.lst xs)\/∃(o:Obj) (its:Array Value) (n:Nat),K.lookup a=Z9 o/\o.cls=.type "list"/\o.dict=Z8/\o.data=.seq its n/\its.size<=bh/\Vals xs its.toList
def bN (K:Z5)(H:Hp)(a:Addr)(xs:List V):Prop:=Rd H a (.tup xs)\/∃(o:Obj) (its:Array Value) (n:Nat),K.lookup a=Z9 o/\o.cls=.type "tuple"/\o.dict=Z8/\o.data=.seq its n/\its.size<=bh/\Vals xs its.toList
def BS:Value->Option V
 |.none=>Z9 .non
 |.bool b=>Z9 (.bl b)
 |.int i _=>Z9 (.int i)
 |.str x _=>Z9 (.str x)
 |.ref a=>Z9 (.ref a)
 |.type n=>Z9 (.ty n)
 |_=>Z8
theorem RelV.abs (r:RelV x u):BS u=Z9 x:=by
 cases x with
 |non=>cases r;rfl
 |bl _=>cases r;rfl
 |int _=>obtain⟨t,rfl⟩:=r;rfl
 |str _=>obtain⟨t,rfl⟩:=r;rfl
 |ref _=>cases r;rfl
 |ty _=>cases r;rfl
theorem RelV.inj (r:RelV x u)(q:RelV y u):x=y:=yc (r.abs.symm.trans q.abs)
theorem Vals.inj:∀{a b:List V} {c:List Value},Vals a c->Vals b c->a=b
 |_,_,_,.nil,.nil=>rfl
 |_,_,_,.cons r t,.cons d e=>by rw[r.inj d,Vals.inj t e]
section
variable {X:Cx}{pins:List (Addr×Obj)}{σ:St}{H:Hp}{s:aq}{a:Addr}{xs ys:List V}
theorem SqL.of {K:Z5}(h:H a=Z9 (.lst xs)):SqL K H a xs:=.inl (.inl h)
theorem bN.of {K:Z5}(h:H a=Z9 (.tup xs)):bN K H a xs:=.inl (.inl h)
theorem Inv.list (I:Inv X pins σ H s)(h:SqL X.K H a xs):∃b,Vals xs b/\PlainL s.heap a b.toArray/\xs.length<=bh:=by
 rcases h with h|⟨o,b,n,hk,c,hd,hs,d,r⟩
 .obtain⟨z,b,n,r,e⟩:=h.ok I.hok;exact⟨b,r,⟨_,n,e,rfl,rfl,rfl⟩,z⟩
 .refine⟨b.toList,r,⟨o,n,I.dS a o hk,c,hd,by simpa using hs⟩,?_⟩;have e:=r.length;simp at e;omega
theorem Inv.tuple (I:Inv X pins σ H s)(h:bN X.K H a xs):∃b,Vals xs b/\IsTup s.heap a b.toArray/\xs.length<=bh:=by
 rcases h with h|⟨o,b,n,hk,c,_,hs,d,r⟩
 .obtain⟨z,b,r,p⟩:=h.ok I.hok;exact⟨b,r,p.tup,z⟩
 .refine⟨b.toList,r,⟨o,I.dS a o hk,c,n,by simpa using hs⟩,?_⟩;have e:=r.length;simp at e;omega
theorem Inv.qT (I:Inv X pins σ H s)(h:bN X.K H a xs):∃l,Vals xs l/\MC s.heap a l.toArray/\xs.length<=bh:=by
 rcases h with h|⟨o,l,n,q,b,hd,hs,c,r⟩
 .obtain⟨z,l,r,n,q⟩:=h.ok I.hok;exact⟨l,r,⟨_,n,q,rfl,rfl,rfl⟩,z⟩
 .exact⟨l.toList,r,⟨o,n,I.dS a o q,b,hd,(by simpa using hs)⟩,(by have w:=r.length;simp at w;omega)⟩
theorem Inv.kW (I:Inv X pins σ H s)(h:SqL X.K H a xs)(i:SqL X.K H a ys):xs=ys:=by
 obtain⟨c,r,⟨o,n,e,_,_,d⟩,_⟩:=I.list h;obtain⟨b,j,⟨k,l,f,_,_,g⟩,_⟩:=I.list i;rw[e]at f;cases f;rw[d]at g;injection g with d1 _;have:c=b:=by simpa using congrArg Array.toList d1
 subst this;exact r.inj j
theorem Inv.jG (I:Inv X pins σ H s)(h:bN X.K H a xs)(i:bN X.K H a ys):xs=ys:=by
 obtain⟨c,r,⟨o,e,_,n,d⟩,_⟩:=I.tuple h;obtain⟨b,j,⟨k,f,_,l,g⟩,_⟩:=I.tuple i;rw[e]at f;cases f;rw[d]at g;injection g with d1 _;have:c=b:=by simpa using congrArg Array.toList d1
 subst this;exact r.inj j
end
abbrev Cx.eW (X:Cx)(E:Value->aq->Prop):Cx:={X with xe:=E}
abbrev Cx.wG (X:Cx):Cx:=X.eW λ_ _=>False
theorem Cx.Ok.eW {X:Cx}(ok:X.Ok)(E:Value->aq->Prop):(X.eW E).Ok:=⟨ok.mod,ok.kind,ok.glob,ok.blt,ok.above,ok.inj,ok.has,ok.mX,ok.hd,ok.frames,ok.pJ,ok.gA,ok.bs,ok.iG,ok.fO,ok.fP,ok.bV,ok.kU,ok.zR⟩
theorem Cx.Ok.cI {X:Cx}(ok:(X.eW E).Ok):X.Ok:=⟨ok.mod,ok.kind,ok.glob,ok.blt,ok.above,ok.inj,ok.has,ok.mX,ok.hd,ok.frames,ok.pJ,ok.gA,ok.bs,ok.iG,ok.fO,ok.fP,ok.bV,ok.kU,ok.zR⟩
section
variable {X:Cx}{pins:List (Addr×Obj)}{σ:St}{H:Hp}{s:aq}{E:Value->aq->Prop}
theorem Inv.eW (I:Inv X pins σ H s)(E:Value->aq->Prop):Inv (X.eW E) pins σ H s:=⟨I.ok.eW E,I.os,I.bare,I.base,I.loc,I.cell,I.free,I.freeC,I.pin,I.hok,I.len,I.fx⟩
theorem Inv.cI (I:Inv (X.eW E) pins σ H s):Inv X pins σ H s:=⟨I.ok.cI,I.os,I.bare,I.base,I.loc,I.cell,I.free,I.freeC,I.pin,I.hok,I.len,I.fx⟩
theorem SP.cI (h:SP (X.eW E) pins D f c):SP X pins D f c:=by
 cases f with
 |next=>obtain⟨a,b,I,q⟩:=h;exact⟨a,b,I.cI,q⟩
 |brk=>obtain⟨a,b,I,q⟩:=h;exact⟨a,b,I.cI,q⟩
 |cont=>obtain⟨a,b,I,q⟩:=h;exact⟨a,b,I.cI,q⟩
 |ret u=>obtain⟨v,a,b,I,r,q⟩:=h;exact⟨v,a,b,I.cI,r,q⟩
theorem PSs.wG {st:List Stmt}(h:PSs X.wG st t):PSs X st t:=λpins s σ H D I a=>gq (h pins s σ H D (I.eW _) a) (λ_ _ q=>q.cI) λ_ _ z=>False.elim z
end
section
variable {X:Cx}{st:Stmt}{rest:List Stmt}{t u:TS}{e:Expr}{te:TE}{pos:Pos}
def GR:TS:=λD σ H=>D.nx σ H
def wH (t u:TS):TS:=λD σ H=>t {D with nx:=u D} σ H
theorem GS:PSs X [] GR:=λ_ _ a H _ I h=>sy ⟨a,H,I,h⟩
theorem GU (c:PS X st t)(d:PSs X rest u):PSs X (st::rest) (wH t u):=by
 intro a s e H D I h;refine wpAny_execs_cons (aI (c a s e H {D with nx:=u D} I h) λf g q=>?_);cases f with
 |next=>obtain⟨b,i,j,q⟩:=q;exact d a g b i D j q
 |ret v=>exact q
 |brk=>exact q
 |cont=>exact q
theorem Inv.quiet (I:Inv X a b H s):interactive X.env=false:=by simp[interactive,I.ok.kind]
def qU (te:TE):TS:=λD σ H=>te σ H λ_ H1=>D.nx σ H1
theorem M1 (c:PE X e te)(hs:l7 e Z8 pos.line X.env=pure false:=by rfl):PS X (.Expr e pos) (qU te):=by intro a s b H D I h;exact wpAny_Expr_any (aI (c a s b H _ I h) λv i ⟨x,d,f,j,g⟩=>⟨b,d,f,g⟩) I.quiet hs
def wI (te:TE):TS:=λD σ H=>te σ H D.rt
theorem BU (c:PE X e te):PS X (.Return (Z9 e) pos) (wI te):=by intro a s b H D I h;exact wpAny_Return_some (aI (c a s b H _ I h) λv j ⟨x,d,f,g,i⟩=>⟨x,b,d,f,g,i⟩)
def wJ (c:TT)(t u:TS):TS:=λD σ H=>c σ H λb H1=>if b=Z7 then t D σ H1 else u D σ H1
theorem GV (l:PT X c tc)(ha:PSs X a t)(hb:PSs X b u):PS X (.If c a b pos) (wJ tc t u):=by
 intro e s f H D I h;refine wpAny_If (aI (l e s f H _ I h) λd g ⟨i,j,k⟩=>?_);cases d with
 |true=>exact ha e g f i D j k
 |false=>exact hb e g f i D j k
end
abbrev TG:=V->St->Hp->(St->Hp->Prop)->Prop
abbrev tX:=List V->St->Hp->(St->Hp->Prop)->Prop
def PG (X:Cx)(target:Expr)(t:TG):Prop:=∀(pins:List (Addr×Obj)) (s:aq) (σ:St) (H:Hp) (v:V) (u:Value) (Q:St->Hp->Prop),Inv X pins σ H s->RelV v u->t v σ H Q->wpAny (model X.prog X.w) X.A (vi target X.env u) (λ_ s'=>∃σ' H',Inv X pins σ' H' s'/\Q σ' H') X.xe s
def PGs (X:Cx)(ts:List Expr)(t:tX):Prop:=∀(pins:List (Addr×Obj)) (s:aq) (σ:St) (H:Hp) (vs:List V) (us:List Value) (Q:St->Hp->Prop),Inv X pins σ H s->Vals vs us->t vs σ H Q->wpAny (model X.prog X.w) X.A (assignInOrder ((iy ts X.env).map (·.2)) us) (λ_ s'=>∃σ' H',Inv X pins σ' H' s'/\Q σ' H') X.xe s
abbrev BV:=V->V->V->Hp->(Hp->Prop)->Prop
def BW (X:Cx)(t:BV):Prop:=∀(pins:List (Addr×Obj)) (s:aq) (σ:St) (H:Hp) (o i v:V) (ov iv u:Value) (Q:Hp->Prop),Inv X pins σ H s->RelV o ov->RelV i iv->RelV v u->t o i v H Q->wpAny (model X.prog X.w) X.A (setItem ov iv u) (λ_ s'=>∃H',Inv X pins σ H' s'/\Q H') X.xe s
section
variable {X:Cx}{pos:Pos}
def mY (i:Nat):TG:=λv σ H Q=>Q (σ.set i (Z9 v)) H
theorem BX (hN:X.N.Nodup)(b:X.N[i]?=Z9 x)(hx:Loc X.env.scope x)(hf:Sto X x:=by first|exact⟨.inl rfl,nofun⟩|exact⟨.inr rfl,nofun⟩|assumption):PG X (.Name x pos) (mY i):=by intro a s d H v u Q I r h;exact wb (z57 I hN b hx r (λe c=>⟨_,H,c,h⟩) hf)
def BY:tX:=λvs σ H Q=>vs=[]/\Q σ H
def M3 (t:TG)(u:tX):tX:=λvs σ H Q=>∃v r,vs=v::r/\t v σ H λσ' H'=>u r σ' H' Q
theorem M4:PGs X [] BY:=by
 rintro a s b H c d Q I r ⟨rfl,h⟩
 cases r;exact assignInOrder_nil ⟨b,H,I,h⟩
theorem zgl (c:PG X e t)(d:PGs X es u)
  (hs:(iy (e::es) X.env).map (·.2)=vi e X.env::(iy es X.env).map (·.2):=by rfl):PGs X (e::es) (M3 t u):=by
 rintro a s f H l m Q I r ⟨v,n,rfl,h⟩
 cases r with
 |cons r rr=>rw[hs];refine assignInOrder_cons (aI (c a s f H _ _ _ I r h) λ_ g ⟨b,i,j,k⟩=>?_);exact d a g b i _ _ Q j rr k
def BZ (K:Z5)(n:Nat)(t:tX):TG:=λv σ H Q=>∃a xs,v=.ref a/\bN K H a xs/\xs.length=n/\t xs σ H Q
theorem znv (g:X.calm=Z7)(h:PGs X es t)
  (hn:(iy es X.env).length=n:=by rfl) (d:(iy es X.env).findIdx? (·.1)=none:=by rfl):PG X (.Tuple es k pos) (BZ X.K n t):=by
 rintro c s f H v u Q I r ⟨a,i,rfl,j,hl,l⟩
 cases r;obtain⟨m,rv,ht,w⟩:=I.tuple j;refine assign_Tuple_tuple (I.ok.hd g) ht (by simp[hn,<-hl,rv.length]) d λp hx=>?_;have q:Inv X c f H {s with heap:=p}:=I.kept λb o e=>hx b o (cu (bj e)) e;exact h c _ f H i _ Q q (by simpa using rv) l
def iH (te:TE)(g:TG):TS:=λD σ H=>te σ H λx H1=>g x σ H1 D.nx
theorem zq5 (d:PE X e f)(i:PG X b g)(hs:uu [b] e pos.line X.env=pure false:=by rfl)(j:uw [b] e X.env=pure none:=by rfl)
  (k:(iy [b] X.env).map (·.2)=[vi b X.env]:=by rfl):PS X (.Assign [b] e pos) (iH f g):=by
 intro a s c H D I h;refine wpAny_Assign_stores (aI (d a s c H _ I h) λv l ⟨x,m,n,o,p⟩=>?_) hs j;rw[k];exact aI (i a l c m x v _ n o p) λ_ r q=>q
theorem z9e (hN:X.N.Nodup)(c:X.N[i]?=Z9 x)(hx:Loc X.env.scope x)(d:PE X e f)(hs:l7 e (Z9 (.Name x a)) pos.line X.env=pure false:=by rfl)(hf:Sto X x:=by first|exact⟨.inl rfl,nofun⟩|exact⟨.inr rfl,nofun⟩|assumption):
  PS X (.Assign [.Name x a] e pos) (iH f (mY i)):=by
 intro b s g H D I h;refine wpAny_Assign_Name (aI (d b s g H _ I h) λv o ⟨y,j,k,l,m⟩=>?_) hs;exact z57 k hN c hx l (λp n=>⟨_,j,n,m⟩) hf
end
structure It where
 go:Nat->Hp->Prop
 gG:Nat->Hp->V->Hp->Prop
 stop:Nat->Hp->Prop
def FpOk (X:Cx)(pins:List (Addr×Obj))(H:Hp)(b:Addr):Prop:=H b=Z8/\b≠X.env.locals/\b∉X.fs/\(b∈X.ex\/X.s₀.heap.objs.size<=b)/\(∀x c,X.env.cells.lookup x=Z9 c->c≠b)/\∀p∈X.pn++pins,p.1≠b
theorem Inv.gI (I:Inv X a g H s)(hb:s.heap.objs.size<=b)(hn:d b=Z8):FpOk X a d b:=by
 refine⟨hn,kt (cr I.lt hb),I.wB hb,.inr (bp I.sz hb),λx c e z=>?_,λp f z=>?_⟩
 .obtain⟨v,q⟩:=I.cell x c e;exact absurd (cr q.lt (z▸hb)) (dk _)
 .exact absurd (cr (bj (I.pin p f).1) (z▸hb)) (dk _)
structure Turn (P:cg)(w:World)(K:Z5)(tg:Expr)(J:It)(fp:List Addr)(it:Addr)(tn:Nat->Heap->Prop):Prop where
 mem:it∈fp
 obj:∀i h,tn i h->∀b∈fp,∃o,h.get? b=Z9 o/\∀v,o.data≠.cell v
 keep:∀i h h',tn i h->(∀b∈fp,∀o,h.get? b=Z9 o->h'.get? b=Z9 o)->tn i h'
 item:∀(X:Cx),X.prog=P->X.w=w->X.K=K->X.calm=Z7->∀(i:Nat) (pins:List (Addr×Obj)) (s:aq) (σ:St) (H:Hp) (E:Value->aq->Prop),Inv X pins σ H s->(∀b∈fp,FpOk X pins H b)->tn i s.heap->J.go i H->wpAny (model P w) X.A (mj (.ref it)) (λr s1=>∃u,r=Z9 u/\wpAny (model P w) X.A (j2 tg (.ref it) u) (λ_ s2=>∃x H',Inv X pins σ H' s2/\RelV x u/\J.gG i H x H'/\tn (i+1) s2.heap/\∀b∈fp,H' b=Z8) E s1) E s
 done:∀(X:Cx),X.prog=P->X.w=w->X.K=K->X.calm=Z7->∀(i:Nat) (pins:List (Addr×Obj)) (s:aq) (σ:St) (H:Hp) (E:Value->aq->Prop),Inv X pins σ H s->(∀b∈fp,FpOk X pins H b)->tn i s.heap->J.stop i H->wpAny (model P w) X.A (mj (.ref it)) (λr s1=>r=Z8/\Inv X pins σ H s1) E s
 self:∀(A:d8) (i:Nat) (s:aq) (Q:Value->aq->Prop) (E:Value->aq->Prop),tn i s.heap->Q (.ref it) s->wpAny (model P w) A (rq (.ref it)) Q E s
abbrev TI:=St->Hp->(It->Hp->Prop)->Prop
def tY (X:Cx)(pins:List (Addr×Obj))(σ:St)(tg:Expr)(R:It->Hp->Prop)(wK:Value)(s2:aq):Prop:=∃(it:Addr) (fp:List Addr) (tn:Nat->Heap->Prop) (J:It) (H':Hp),wK=.ref it/\Inv X pins σ H' s2/\Turn X.prog X.w X.K tg J fp it tn/\tn 0 s2.heap/\(∀b∈fp,FpOk X pins H' b)/\R J H'
def PI (X:Cx)(tg iter:Expr)(wi:TI):Prop:=∀(pins:List (Addr×Obj)) (s:aq) (σ:St) (H:Hp) (R:It->Hp->Prop),Inv X pins σ H s->wi σ H R->wpAny (model X.prog X.w) X.A (eval iter X.env) (λv s1=>wpAny (model X.prog X.w) X.A (rq v) (tY X pins σ tg R) X.xe s1) X.xe s
theorem zjj (ho:s.heap.get? b=Z9 o)(c:o.cls=.type n)(hd:o.data=.fields d)
  (hn:["enumerate","zip","dict_itemiterator","dict_reverseitemiterator","odict_iterator","itertools.zip_longest","itertools.pairwise"].contains n=Z6) (a:Q () s):wpAny M A (j2 e (.ref b) u) Q E s:=by
 cases e<;>first
  |exact ah a
  |(cases u<;>first
   |exact ah a
   |(refine ac (vj ho ?_)
     rw[c,hd];show wpAny M A (if(["enumerate","zip","dict_itemiterator","dict_reverseitemiterator","odict_iterator","itertools.zip_longest","itertools.pairwise"].contains n&&d[0]?==Z9 (gc _))=Z7 then _ else _) Q E s;rw[yb (by intro h;rw[hn]at h;cases h)];exact ah a))
def B4 (K:Z5)(a:Addr):It:=⟨λi H=>∃xs x,SqL K H a xs/\xs[i]?=Z9 x,λi H x H'=>H'=H/\∀xs,SqL K H a xs->xs[i]?=Z9 x,λi H=>∃xs,SqL K H a xs/\xs.length<=i⟩
def GW (K:Z5)(a:Addr):It:=⟨λi H=>∃xs x,bN K H a xs/\xs[i]?=Z9 x,λi H x H'=>H'=H/\∀xs,bN K H a xs->xs[i]?=Z9 x,λi H=>∃xs,bN K H a xs/\xs.length<=i⟩
def zT (lo:Int)(n:Nat):It:=⟨λi _=>i<n,λi H x H'=>H'=H/\x=.int (lo+i),λi _=>n<=i⟩
theorem GX {K:Z5}(a g:Addr):Turn P w K U (B4 K a) [g] g (λi h=>h.IsListIter g a i) where
 mem:=by simp
 obj:=λi h st b hb=>by
  have e:b=g:=by simpa using hb
  subst e;obtain⟨o,e,c,d⟩:=st;exact⟨o,e,λv z=>by rw[d]at z;cases z⟩
 keep:=λi h m st k=>st.at λo e=>k g (by simp) o e
 item:=by intro X n q r G i f s J H E I hf st t;subst n q r;obtain⟨L,x,l,hx⟩:=t;obtain⟨y,rv,p,M⟩:=I.list l;obtain⟨u,hu,N⟩:=rv.get hx;obtain⟨A,B,O,C,D,F⟩:=hf g (by simp);refine wpAny_pyNext_list_item st p.isList (by simpa using hu) λm j Q=>?_;have R:Inv X f J H {s with heap:=m}:=I.turned (λb o hb e=>(Q.2 b hb).trans e) A B C D F;obtain⟨o,e,c,d⟩:=id j;exact⟨u,rfl,zjj e c d (by decide) ⟨x,H,R,N,⟨rfl,λV S=>by rw[I.kW S l];exact hx⟩,j,λb hb=>(hf b hb).1⟩⟩
 done:=by intro X n q r G i f s J H E I hf st t;subst n q r;obtain⟨L,l,hx⟩:=t;obtain⟨y,rv,p,M⟩:=I.list l;obtain⟨A,B,O,C,D,F⟩:=hf g (by simp);have hl:=rv.length;exact wpAny_pyNext_list_end (I.ok.hd G) st p.isList (by grind) λm T=>⟨rfl,I.turned (λb o hb e=>T b o hb e) A B C D F⟩
 self:=λ_ _ _ _ _ st h=>wpAny_pyIter_listiter st h
theorem M5 {K:Z5}(a g:Addr):Turn P w K U (GW K a) [g] g (λi h=>h.IsTupleIter g a i) where
 mem:=by simp
 obj:=λi h st b hb=>by
  have e:b=g:=by simpa using hb
  subst e;obtain⟨o,e,c,d⟩:=st;exact⟨o,e,λv z=>by rw[d]at z;cases z⟩
 keep:=λi h m st k=>st.at λo e=>k g (by simp) o e
 item:=by intro X n q r G i f s J H E I hf st t;subst n q r;obtain⟨L,x,l,hx⟩:=t;obtain⟨y,rv,p,M⟩:=I.tuple l;obtain⟨u,hu,N⟩:=rv.get hx;obtain⟨A,B,O,C,D,F⟩:=hf g (by simp);refine wpAny_pyNext_tuple_item st p (by simpa using hu) λm j Q=>?_;have R:Inv X f J H {s with heap:=m}:=I.turned (λb o hb e=>(Q.2 b hb).trans e) A B C D F;obtain⟨o,e,c,d⟩:=id j;exact⟨u,rfl,zjj e c d (by decide) ⟨x,H,R,N,⟨rfl,λV S=>by rw[I.jG S l];exact hx⟩,j,λb hb=>(hf b hb).1⟩⟩
 done:=by intro X n q r G i f s J H E I hf st t;subst n q r;obtain⟨L,l,hx⟩:=t;obtain⟨y,rv,p,M⟩:=I.tuple l;obtain⟨A,B,O,C,D,F⟩:=hf g (by simp);have hl:=rv.length;exact wpAny_pyNext_tuple_end (I.ok.hd G) st p (by grind) λm T=>⟨rfl,I.turned (λb o hb e=>T b o hb e) A B C D F⟩
 self:=λ_ _ _ _ _ st h=>wpAny_pyIter_tupleiter st h
theorem M6 {K:Z5}(a:Addr)(f:Int)(n:Nat):Turn P w K L (zT f n) [a] a (λi h=>IsRangeIter h a (f+(i:Nat)*1) ((n:Int)-(i:Nat)) 1) where
 mem:=by simp
 obj:=λi h st b hb=>by
  have e:b=a:=by simpa using hb
  subst e;exact⟨_,st,λv z=>by cases z⟩
 keep:=λi h g st k=>k a (by simp) _ st
 item:=by intro X x y A j i c s B H E I hf st l;subst x y A;obtain⟨m,p,C,q,r,u⟩:=hf a (by simp);refine(Walks.range (prog:=X.prog) (w:=X.w) (I.ok.hd j) a f 1 n).item i s _ _ l st λv g D F d kk=>?_;obtain⟨t,rfl⟩:=F;have G:Inv X c B H {s with heap:=g,toks:=D}:=I.turned (λb o hb e=>kk b o (by simpa using hb) e) m p q r u;refine⟨_,rfl,zjj d rfl rfl (by decide) ⟨.int (f+i),H,G,⟨t,?_⟩,⟨rfl,rfl⟩,d,λb hb=>(hf b hb).1⟩⟩;rw[Int.mul_one]
 done:=by intro X x y A j i c s B H E I hf st l;obtain⟨m,p,C,q,r,u⟩:=hf a (by simp);exact wpAny_pyNext_range_end (I.ok.hd j) st (by have:n<=i:=l;omega) λg J=>⟨rfl,I.turned (λb o hb e=>J b o hb e) m p q r u⟩
 self:=λ_ _ _ _ _ st h=>wpAny_pyIter_rangeiter st h
section
variable {X:Cx}{tg:Expr}
def wL (K:Z5)(tl:TE):TI:=λσ H R=>tl σ H λx H1=>∃a,x=.ref a/\(∃xs,SqL K H1 a xs)/\R (B4 K a) H1
theorem GY (hl:PE X l tl):PI X tg l (wL X.K tl):=by
 intro c s g H R I h;refine aI (hl c s g H _ I h) λv f ⟨x,i,d,j,k⟩=>?_;obtain⟨a,rfl,⟨r,m⟩,q⟩:=k;cases j;obtain⟨n,rv,p,t⟩:=d.list m;refine jm p.isList (⟨f.heap.objs.size,[f.heap.objs.size],_,_,i,rfl,d.kept λb o e=>af _ e,GX a _,⟨_,ax _ rfl,rfl,rfl⟩,λb hb=>?_,q⟩);have e:b=f.heap.objs.size:=by simpa using hb
 subst e;exact d.gI (ai _) (d.hok.fresh (ai _))
theorem zgr {a:Int}(I:Inv X d g H s)(h:-(2 ^ 62)<=a)(i:a<2 ^ 62)(j:-(2 ^ 62)<=c)(k:c<2 ^ 62)
  (q:R (zT a (c-a).toNat) H):wpAny (model X.prog X.w) X.A (rq (.ref s.heap.objs.size)) (tY X d g tg R) E {s with heap:=s.heap.push {cls:=.type "range",data:=.fields #[.int a t,.int c u,.int 1 v]},toks:=tk}:=by
 refine wpAny_pyIter_range (IsRange.new ..) (small_one h i j k) ?_;have f:Inv X d g H {s with heap:=s.heap.push {cls:=.type "range",data:=.fields #[.int a t,.int c u,.int 1 v]},toks:=tk}:=I.kept λb o e=>af _ e;refine⟨(s.heap.push {cls:=.type "range",data:=.fields #[.int a t,.int c u,.int 1 v]}).objs.size,[(s.heap.push {cls:=.type "range",data:=.fields #[.int a t,.int c u,.int 1 v]}).objs.size],_,_,H,rfl,f.kept λb o e=>af _ e,M6 _ a (c-a).toNat,?_,λb hb=>?_,q⟩
 .have l:a+((0:Nat):Int)*1=a:=by simp
  have m:(((c-a).toNat:Nat):Int)-((0:Nat):Int)=Builtin.Range.rangeSize a c 1:=by rw[rangeSize_one];split<;>omega
  rw[l,m];exact ax _ rfl
 .have e:b=(s.heap.push {cls:=.type "range",data:=.fields #[.int a t,.int c u,.int 1 v]}).objs.size:=by simpa using hb
  subst e;exact f.gI (ai _) (f.hok.fresh (ai _))
def M7 (ta:TA):TI:=λσ H R=>ta σ H λvs H1=>∃j:Int,vs=[.int j]/\-(2 ^ 62)<=j/\j<2 ^ 62/\R (zT 0 j.toNat) H1
theorem M8 (d:Gl X "range")(hm:X.mg "range"=Z8)(ha:PA X [a] e)(hs:fq [a] X.env=[(Z6,eval a X.env)]:=by rfl):PI X tg (.Call (.Name "range" p) [a] [] pos) (M7 e):=by
 intro b s f H R I h;refine Call_ (z2d I d hm boot_range (PyProof.Rows.callWith_type1 (aI (ha pos b s f H _ I h) λl m ⟨n,o,g,i,c⟩=>?_) hs rfl));obtain⟨j,rfl,c,k,q⟩:=c;cases i with
 |cons r rr=>cases rr;obtain⟨t,rfl⟩:=r;exact call_range_1 (zgr g (by omega) (by omega) c k (by simpa using q))
def iI (wi:TI)(g:TG)(tb:TS):TS:=λD σ H=>wi σ H λJ H1=>∃W:Nat->Nat->St->Hp->Prop,(∃m,W 0 m σ H1)/\∀i m σ H,W i m σ H->(J.stop i H/\D.nx σ H)\/(J.go i H/\∃N:St->Hp->Prop,(∀σ' H',N σ' H'->∃m',m'<m/\W (i+1) m' σ' H')/\∀x H',J.gG i H x H'->g x σ H' λtZ H2=>tb {D with nx:=N,ct:=N,bk:=D.nx} tZ H2)
def z6v (fp:List Addr)(h:Heap):List (Addr×Obj):=fp.filterMap λb=>(h.get? b).map λo=>(b,o)
theorem uA (hb:b∈a)(e:h.get? b=Z9 o):(b,o)∈z6v a h:=jz.mpr ⟨b,hb,by rw[e];rfl⟩
theorem M9 (a:p∈z6v c h):p.1∈c/\h.get? p.1=Z9 p.2:=by
 obtain⟨b,hb,e⟩:=jz.mp a;cases q:h.get? b with
 |none=>rw[q]at e;cases e
 |some o=>rw[q]at e;have d:=yc e;subst d;exact⟨hb,q⟩
theorem Inv.pinned (I:Inv X a g H s)(hf:∀b∈c,FpOk X a H b)(ho:∀b∈c,∃o,s.heap.get? b=Z9 o/\∀v,o.data≠.cell v):Inv X (a++z6v c s.heap) g H s:=I.fT λp h=>(bw.mp h).elim (λz=>I.pin p (bg _ z)) λz=>by obtain⟨hb,e⟩:=M9 z;obtain⟨i,j,k,_⟩:=hf p.1 hb;obtain⟨o,f,d⟩:=ho p.1 hb;rw[e]at f;cases f;exact⟨e,i,j,k,d⟩
theorem Inv.bO (I:Inv X (a++pl) b H s):Inv X a b H s:=I.fT λp c=>I.pin p (bg _ (bz _ c))
theorem z8b (C:ji (model X.prog X.w) X.A X.env X.xe)(U:X.calm=Z7)(hi:PI X tg y wi)(hg:PG X tg g)(hb:PSs X E tb)
  (hs:∀x,im y X.env x=pure x:=by intro _;rfl):PS X (.For tg y E [] pos) (iI wi g tb):=by
 intro a s V H D I h;refine wpAny_For (aI (hi a s V H _ I h) λv s1 h1=>aI h1 λwK s2 h2=>?_) hs;obtain⟨it,F,tn,J,H2,rfl,I2,T,P,Y,W,⟨m0,w0⟩,G⟩:=h2;have j:∀{t:Hp},(∀b∈F,t b=Z8)->∀b∈F,FpOk X a t b:=λhn b hb=>⟨hn b hb,(Y b hb).2⟩;refine codeAny_forLoop_any (λn s'=>∃i k t,Inv X a k t s'/\tn i s'.heap/\(∀b∈F,t b=Z8)/\W i n k t) ?_ m0 ⟨0,V,H2,I2,P,λb hb=>(Y b hb).1,w0⟩
 rintro n s3 ⟨i,hS,O,I3,K,L,w3⟩
 rcases G i n hS O w3 with⟨stop,qn⟩|⟨go,N,hN,step⟩
 .refine lx C (aI (T.done X rfl rfl rfl U i a s3 hS O X.xe I3 (j L) K stop) λr s4 ⟨hr,I4⟩=>?_);subst hr;exact sy ⟨hS,O,I4,qn⟩
 .refine lx C (aI (T.item X rfl rfl rfl U i a s3 hS O X.xe I3 (j L) K go) λr s4 ⟨u,hr,h4⟩=>?_);subst hr;refine lx C (aI h4 λ_ s5 ⟨x,H5,I5,r5,y5,B,Q⟩=>?_);refine lx C (aI (hg _ s5 hS H5 x u _ (I5.pinned (j Q) (T.obj _ _ B)) r5 (step x H5 y5)) λ_ s6 ⟨R,H6,I6,q6⟩=>?_);refine lx C (aI (hb _ s6 R H6 _ I6 q6) λf S z=>?_);have l:∀{c:St} {p:Hp},Inv X (a++z6v F s5.heap) c p S->N c p->∃m,m<n/\∃i k t,Inv X a k t S/\tn i S.heap/\(∀b∈F,t b=Z8)/\W i m k t:=λ{c p} q M=>by obtain⟨m',hm,w7⟩:=hN c p M;refine⟨m',hm,i+1,c,p,q.bO,T.keep _ _ _ B λb hb o e=>(q.pin (b,o) (bg _ (bg _ (uA hb e)))).1,λb hb=>?_,w7⟩;obtain⟨o,e,d⟩:=T.obj _ _ B b hb;exact(q.pin (b,o) (bg _ (bg _ (uA hb e)))).2.1
  cases f with
  |next=>obtain⟨c,p,q,M⟩:=z;exact l q M
  |cont=>obtain⟨c,p,q,M⟩:=z;exact l q M
  |brk=>obtain⟨c,p,q,z⟩:=z;exact⟨c,p,q.bO,z⟩
  |ret v=>obtain⟨x7,c,p,q,r7,z⟩:=z;exact⟨x7,c,p,q.bO,r7,z⟩
end
abbrev R2:=V->V->Hp->VK->Prop
def OpR (X:Cx)(f:Value->Value->Sem Value)(r:R2):Prop:=∀(pins:List (Addr×Obj)) (s:aq) (σ:St) (H:Hp) (x y:V) (v u:Value) (Q:VK),Inv X pins σ H s->RelV x v->RelV y u->r x y H Q->wpAny (model X.prog X.w) X.A (f v u) (EP X pins σ Q) X.xe s
def CallR (X:Cx)(f:Value)(r:List V->Hp->VK->Prop):Prop:=∀(pins:List (Addr×Obj)) (s:aq) (σ:St) (H:Hp) (xs:List V) (us:List Value) (Q:VK),Inv X pins σ H s->Vals xs us->r xs H Q->wpAny (model X.prog X.w) X.A (call f us) (EP X pins σ Q) X.xe s
def B5 (X:Cx)(r:V->Hp->(Bool->Hp->Prop)->Prop):Prop:=∀(pins:List (Addr×Obj)) (s:aq) (σ:St) (H:Hp) (x:V) (v:Value) (Q:Bool->Hp->Prop),Inv X pins σ H s->RelV x v->r x H Q->wpAny (model X.prog X.w) X.A (truthy v) (TP X pins σ Q) X.xe s
def iJ (r:R2)(ta tb:TE):TE:=λσ H Q=>ta σ H λx H1=>tb σ H1 λy H2=>r x y H2 Q
def rI (C:Int->Int->Prop)(g:Int->Int->V):R2:=λx y H Q=>∃i j,x=.int i/\y=.int j/\C i j/\Q (g i j) H
def kY (g:Int->Int->V):R2:=λx y H Q=>∃i j,x=.int i/\y=.int j/\Q (g i j) H
section
variable {X:Cx}{a b c:Expr}{ta tb tc:TE}{pos:Pos}
theorem binT (ha:PE X a ta)(hb:PE X b tb){R:V->V->Hp->Prop}(I:Inv X pins d H s)
  (h:ta d H λx j=>tb d j λy c=>R x y c) {f:Value->Value->Sem Value}
  (hf:∀v u i x y c,Inv X pins d c i->RelV x v->RelV y u->R x y c->wpAny (model X.prog X.w) X.A (f v u) Q X.xe i):
  wpAny (model X.prog X.w) X.A (eval a X.env) (λv e=>wpAny (model X.prog X.w) X.A (eval b X.env) (λu g=>wpAny (model X.prog X.w) X.A (f v u) Q X.xe g) X.xe e) X.xe s:=by
 exact aI (ha pins s d H _ I h) λv k ⟨x,j,l,m,n⟩=>aI (hb pins k d j _ l n) λu i ⟨y,c,o,p,q⟩=>hf v u i x y c o m p q
theorem B6 (ho:OpR X (i3 op) r)(ha:PE X a ta)(hb:PE X b tb):PE X (.BinOp a op b pos) (iJ r ta tb):=by intro c s d H Q I h;exact wpAny_BinOp (binT ha hb I h λv u e x y f g i j q=>ho c e d f x y v u Q g i j q)
theorem opI {g:Int->Int->Int}
  (a:∀i j t u s Q E,C i j->Q (.int (g i j) s.toks) {s with toks:=s.toks+1}->wpAny (model X.prog X.w) X.A (f (.int i t) (.int j u)) Q E s):
  OpR X f (rI C λi j=>.int (g i j)):=by
 rintro b s k H x y v u Q I c d ⟨i,j,rfl,rfl,e,q⟩
 obtain⟨t,rfl⟩:=c;obtain⟨h,rfl⟩:=d;exact a i j t h s _ _ e ⟨.int (g i j),H,I.tok _,⟨_,rfl⟩,q⟩
theorem opI0 {g:Int->Int->Int}
  (a:∀i j t u s Q E,Q (.int (g i j) s.toks) {s with toks:=s.toks+1}->wpAny (model X.prog X.w) X.A (f (.int i t) (.int j u)) Q E s):
  OpR X f (kY λi j=>.int (g i j)):=by
 rintro b s h H x y v u Q I c d ⟨i,j,rfl,rfl,q⟩
 obtain⟨t,rfl⟩:=c;obtain⟨e,rfl⟩:=d;exact a i j t e s _ _ ⟨.int (g i j),H,I.tok _,⟨_,rfl⟩,q⟩
theorem opB0 {g:Int->Int->Bool}
  (a:∀i j t u s Q E,Q (.bool (g i j)) s->wpAny (model X.prog X.w) X.A (f (.int i t) (.int j u)) Q E s):
  OpR X f (kY λi j=>.bl (g i j)):=by
 rintro b s h H x y v u Q I c d ⟨i,j,rfl,rfl,q⟩
 obtain⟨t,rfl⟩:=c;obtain⟨e,rfl⟩:=d;exact a i j t e s _ _ ⟨.bl (g i j),H,I,rfl,q⟩
def B7 (i j:Int):Prop:=0<=j/\j<=1000000/\i.natAbs<2 ^ 64
def qV (i j:Int):Prop:=(-(2 ^ 64)<i/\i<2 ^ 64)\/(-(2 ^ 64)<j/\j<2 ^ 64)
theorem qV.ok (h:qV i j):IntMulOk i j:=by
 rcases h with⟨a,b⟩|⟨a,b⟩
 .exact .of_left (intBits_le_64 a b)
 .exact .of_right (intBits_le_64 a b)
theorem M':OpR X (i3 .Add) (kY λi j=>.int (i+j)):=opI0 λ_ _ _ _ _ _ _ q=>add_int q
theorem Na:OpR X (i3 .Sub) (kY λi j=>.int (i-j)):=opI0 λ_ _ _ _ _ _ _ q=>sub_int q
theorem Nb:OpR X (i3 .Mult) (rI qV λi j=>.int (i*j)):=opI λ_ _ _ _ _ _ _ a q=>mul_int q a.ok
theorem Nc:OpR X (i3 .Mod) (rI (λ_ j=>0<j) λi j=>.int (i%j)):=opI λi j _ _ _ _ _ a q=>by exact mod_int' (by omega) (by rw[Int.fmod_eq_emod_of_nonneg i (by omega)];exact q)
theorem Nd:OpR X (i3 .Pow) (rI B7 λi j=>.int (i ^ j.toNat)):=opI λ_ _ _ _ _ _ _ a q=>pow_int_small a.1 a.2.1 a.2.2 q
end
section
variable {X:Cx}{a b c:Expr}{ta tb tc:TE}{pos:Pos}
theorem Nf:OpR X (ge .Lt) (kY λi j=>.bl (decide (i<j))):=opB0 λ_ _ _ _ _ _ _ q=>lt_int q
theorem Ng:OpR X (ge .Gt) (kY λi j=>.bl (decide (j<i))):=opB0 λ_ _ _ _ _ _ _ q=>gt_int q
theorem Nh:OpR X (ge .GtE) (kY λi j=>.bl (decide (j<=i))):=opB0 λ_ _ _ _ _ _ _ q=>ge_int q
theorem OpR.or (h:OpR X f r)(e:OpR X f g):OpR X f (λx y H Q=>r x y H Q\/g x y H Q):=by
 intro a s b H x y v u Q I c d q;rcases q with q|q
 .exact h a s b H x y v u Q I c d q
 .exact e a s b H x y v u Q I c d q
theorem GZ (ho:OpR X (ge op) r)(ha:PE X a ta)(hb:PE X b tb)(hm:gh op b=Z6):PE X (.Compare a [op] [b] pos) (iJ r ta tb):=by intro c s d H Q I h;exact wpAny_Compare1 (binT ha hb I h λv u e x y f g i j q=>ho c e d f x y v u Q g i j q) hm
def wM (t:TE):TT:=λσ H Q=>t σ H λx H'=>∃k,x=.bl k/\Q k H'
theorem G0 (ho:OpR X (ge op) r)(ha:PE X a ta)(hb:PE X b tb)(hm:gh op b=Z6):PT X (.Compare a [op] [b] pos) (wM (iJ r ta tb)):=by intro d s f H Q I h;refine tm (aI (ha d s f H _ I h) λv g ⟨x,i,j,l,m⟩=>aI (hb d g f i _ j m) λu n ⟨y,o,p,q,t⟩=>aI (ho d n f o x y v u _ p l q t) λc C ⟨z,w,A,r3,k,e,B⟩=>?_) hm;subst e;cases r3;exact il ⟨w,A,B⟩
def kZ (K:Z5)(x:V)(H:Hp)(k:Bool):Prop:=
 match x with
 |.non=>k=Z6
 |.bl b=>k=b
 |.int i=>k=(i != 0)
 |.str y=>y.length<=bh/\k=((y.length:Int) != 0)
 |.ref p=>(∃xs,SqL K H p xs/\k=!xs.isEmpty)\/(∃xs,bN K H p xs/\k=!xs.isEmpty)\/∃kvs,H p=Z9 (.dK kvs)/\k=!kvs.isEmpty
 |_=>False
theorem Ni (r:KV kvs vs):(!vs.isEmpty)=!kvs.isEmpty:=by cases r<;>rfl
theorem G1 (r:Vals xs its):(!its.toArray.isEmpty)=!xs.isEmpty:=by cases r<;>simp
theorem qW:(bh:Nat)<2 ^ 63:=by rw[dw];decide
theorem G2:B5 X (λx H Q=>∃k,kZ X.K x H k/\Q k H):=by
 rintro g s o H x v Q I d ⟨k,e,q⟩
 have hl:=qW;cases x with
 |non=>cases d;have a:=e;subst a;exact truthy_none ⟨H,I,q⟩
 |bl b=>cases d;have a:=e;subst a;exact il ⟨H,I,q⟩
 |int i=>obtain⟨t,rfl⟩:=d;have a:=e;subst a;exact PySem.P.truthy_int ⟨H,I,q⟩
 |str y=>obtain⟨t,rfl⟩:=d;obtain⟨u,rfl⟩:=e;exact PySem.P.truthy_str (by omega) ⟨H,I.tok _,q⟩
 |ref p=>
  cases d;have a:=e;rcases a with⟨j,hx,a⟩|⟨j,hx,a⟩|⟨l,hx,a⟩
  .subst a;obtain⟨f,r,pl,h⟩:=I.list hx;have c:=r.length;exact wpAny_truthy_list pl.isList (by grind) ⟨H,I.tok _,by rw[G1 r];exact q⟩
  .subst a;obtain⟨f,r,pl,h⟩:=I.tuple hx;have c:=r.length;exact truthy_tuple pl (by grind) ⟨H,I.tok _,by rw[G1 r];exact q⟩
  .subst a;obtain⟨h,n,w,r,m⟩:=I.hok p _ hx;have c:=Paired.length r;exact wpAny_truthy_dict n m (by omega) ⟨H,I.tok _,by rw[Ni r];exact q⟩
 |_=>exact e.elim
theorem z8u (ha:PE X a ta)(f:∀b,xl a X.env b=(do let v <-b;standAt a.pos;x8 [v] (truthy v))):
  PT X a (λd H Q=>ta d H λx e=>∃k,kZ X.K x e k/\Q k e):=by
 intro c s d H Q I h;exact isTrue_plain (aI (ha c s d H _ I h) λv g ⟨x,i,j,l,m⟩=>G2 c g d i x v Q j l m) (f _)
theorem Nj:OpR X (i3 .Add) (λx y H Q=>∃i j,x=.str i/\y=.str j/\i.length+j.length<=bh/\Q (.str (i++j)) H):=by
 rintro a s f H x y v u Q I b c ⟨i,j,rfl,rfl,d,q⟩
 obtain⟨t,rfl⟩:=b;obtain⟨e,rfl⟩:=c;exact add_str (λe g=>⟨.str (i++j),H,I.tok _,⟨_,rfl⟩,q⟩) d
theorem vals1 (r:Vals [x] us):∃u,us=[u]/\RelV x u:=by
 cases r with
 |cons a b=>cases b;exact⟨_,rfl,a⟩
theorem vals2 (r:Vals [x,y] us):∃u a,us=[u,a]/\RelV x u/\RelV y a:=by
 cases r with
 |cons b c=>
  cases c with
  |cons r3 r4=>cases r4;exact⟨_,_,rfl,b,r3⟩
theorem Nk (d:X.calm=Z7):CallR X (.builtin "max") (λb H Q=>∃i j,b=[.int i,.int j]/\Q (.int (if j>i then j else i)) H):=by
 rintro c s e H b f Q I r ⟨i,j,rfl,q⟩
 obtain⟨u,g,rfl,⟨t,rfl⟩,h,rfl⟩:=vals2 r;refine max_two_ints (I.ok.hd d) λl m k=>⟨_,H,I.kept k,?_,q⟩;by_cases a:j>i
 .rw[ya a,ya a];exact⟨_,rfl⟩
 .rw[yb a,yb a];exact⟨_,rfl⟩
theorem Nl:CallR X (.type "int") (λa H Q=>(∃i,a=[.int i]/\Q (.int i) H)\/∃k,a=[.bl k]/\Q (.int (if k then 1 else 0)) H):=by
 intro b s c H a d Q I r h;rcases h with⟨i,rfl,q⟩|⟨k,rfl,q⟩
 .obtain⟨u,rfl,t,rfl⟩:=vals1 r;exact call_int_int ⟨.int i,H,I,⟨_,rfl⟩,q⟩
 .obtain⟨u,rfl,rfl⟩:=vals1 r;exact call_int_bool ⟨.int (if k then 1 else 0),H,I.tok _,⟨_,rfl⟩,q⟩
end
structure qX (h:Heap)(x dx C:Addr)(mA:Str->Option Value):Prop where
 obj:h.get? x=Z9 (W.instObj C dx)
 ns:h.Ns1 dx mA
 ne:dx≠x
theorem Nm {h:Heap}(n:h.Ns1 d f):∃od,h.get? d=Z9 od/\∀b,W.lookIn b od=Z9 (f b):=by
 obtain⟨o,es,ep,ho,hd,hk,_,hm⟩:=n;refine⟨o,ho,λb=>?_⟩;have e:=hm b;unfold nsFind findBy at e;rw[<-vm]at e;unfold W.lookIn;rw[hd]
 dsimp only
 split
 .rename_i y q;rw[q]at e;exact congrArg Z9 e
 .rename_i q;rw[q]at e;have a:es.toList.any (·.refKey)=false:=by rw[List.any_eq_false];intro y g;obtain⟨z,t,c⟩:=hk y (Array.mem_toList_iff.mp g);simp[DictEntry.refKey,c]
  rw[yb (a▸gp)];exact congrArg Z9 e
theorem qX.look (I:qX h x b C c):∃od,W.InstAt h x (W.instObj C b) C (Z9 od)/\∀a,W.lookIn a od=Z9 (c a):=
 let⟨od,ho,hl⟩:=Nm I.ns
 ⟨od,⟨I.obj,rfl,rfl,ho⟩,hl⟩
theorem dD.some_of (r:dD (Z9 v) o):∃u,o=Z9 u/\RelV v u:=by
 cases o with
 |none=>exact r.elim
 |some u=>exact⟨u,rfl,r⟩
theorem Nn (r:RelV v u):W.handedIn u=true:=by
 cases v with
 |non=>cases r;rfl
 |bl b=>cases r;rfl
 |int i=>obtain⟨t,e⟩:=r;cases e;rfl
 |str x=>obtain⟨t,e⟩:=r;cases e;rfl
 |ref a=>cases r;rfl
 |ty n=>cases r;rfl
section
variable {P:cg}{w:World}{H H':Hp}{h h':Heap}{a C dx:Addr}{fs MD:List (Str×V)}
theorem Np (hok:HOk P w H h)(e:H a=Z9 (.ins C dx fs)):∃b,qX h a dx C b/\(∀f,dD (fs.lookup f) (b f))/\PySem.Within b (fs.map (·.1))/\fs.length<=1000/\H dx=Z9 (.own a):=by obtain⟨d,z,ne,c,b,n,r,q⟩:=(hok a _ e);exact⟨b,⟨c,n,ne⟩,r,q,z,d⟩
end
structure uB (K:Z5)(C:Addr):Prop where
 pg:W.plainGet K C Str.empty=Z7
 hd:W.hasDictIn K C=Z7
 po:W.plainOver K C=Z7
 sa:Z4 K (.ref C) "__setattr__"=Z9 (Z9 (.builtin "object.__setattr__"))
theorem uB.get {K:Z5}(c:uB K C)(f:Str):W.plainGet K C f=true:=c.pg
structure Meth (K:Z5)(C:Addr)(m:Str)(f:Addr):Prop where
 at_:Z4 K (.ref C) m=Z9 (Z9 (.ref f))
 fn:W.isFn K (.ref f)=Z7
 kp:Z3 K (.ref f)=Z7
section
variable {X:Cx}{pins:List (Addr×Obj)}{σ:St}{H:Hp}{s:aq}{a C dx:Addr}{fs:List (Str×V)}{f:Str}{v:V}{A:d8}{E:Value->aq->Prop}
theorem zk0 (hb:ql e f env (eval e env)=eval e env)
  (h:wpAny (model prog w) A (eval e env) (λo a=>wpAny (model prog w) A (getAttr o f Z7) Q E a) E s):wpAny (model prog w) A (eval (.Attribute e f pos) env) Q E s:=
 Attribute_any_ h (by rw[arm_eval_Attribute,hb])
end
section
variable {X:Cx}{pins:List (Addr×Obj)}{σ:St}{H:Hp}{s:aq}{A:d8}{E:Value->aq->Prop}{Q:Value->aq->Prop}{c:Value}{b:Bool}
inductive TyOf (K:Z5)(H:Hp):V->Value->Prop where
 |non:TyOf K H .non (.type "NoneType")
 |bl (x:Bool):TyOf K H (.bl x) (.type "bool")
 |int (i:Int):TyOf K H (.int i) (.type "int")
 |str (x:Str):TyOf K H (.str x) (.type "str")
 |lst {a:Addr} {xs:List V} (e:H a=Z9 (.lst xs)):TyOf K H (.ref a) (.type "list")
 |fN {a:Addr} {o:Obj} {xs:List V} (e:H a=Z9 (.fN o (.lst xs))):TyOf K H (.ref a) (.type "list")
 |tup {a:Addr} {xs:List V} (e:H a=Z9 (.tup xs)):TyOf K H (.ref a) (.type "tuple")
 |dK {a:Addr} {kvs:List (Key×V)} (e:H a=Z9 (.dK kvs)):TyOf K H (.ref a) (.type "dict")
 |dT {a:Addr} {kvs:List (List Key×V)} (e:H a=Z9 (.dT kvs)):TyOf K H (.ref a) (.type "dict")
 |ins {a C dx:Addr} {fs:List (Str×V)} (e:H a=Z9 (.ins C dx fs)) (cl:uB K C) (ha:Z4 K (.ref C) "__class__"=Z9 (Z9 (.builtin "object.__class__")))
  (hn:W.specialIn K (.builtin "object.__class__") "__get__"=Z9 (Z9 (.builtin "getset_descriptor.__get__"))) (Xw:W.takesIn K (.builtin "object.__class__")=Z9 Z7)
  (hm:W.mroIn K C (.type "object")=Z9 Z7):TyOf K H (.ref a) (.ref C)
theorem z2e (I:Inv X pins σ H s)(f:RelV x u)(ty:TyOf X.K H x t)(e:W.kitOne X.K t c=Z9 b)(h:∀r,Q (.bool b) {s with toks:=r}):
  wpAny (model X.prog X.w) A (call (.builtin "isinstance") [u,c]) Q E s:=by
 cases ty with
 |non=>cases f;exact Z2 W.kitx_none I.dS True.intro e (λz=>nomatch z) h
 |bl y=>cases f;exact Z2 W.kitx_bool I.dS True.intro e (λz=>nomatch z) h
 |int i=>obtain⟨t,q⟩:=f;cases q;exact Z2 W.kitx_int I.dS True.intro e (λz=>nomatch z) h
 |str y=>obtain⟨t,q⟩:=f;cases q;exact Z2 W.kitx_str I.dS True.intro e (λz=>nomatch z) h
 | @lst a k d=>cases f;obtain⟨_,_,n,_,g⟩:=(I.hok a _ d);exact Z2 W.kitx_list I.dS ⟨_,g,rfl⟩ e (λz=>nomatch z) h
 | @fN a v k d=>cases f;obtain⟨_,_,_,n,_,g⟩:=(I.hok a _ d);exact Z2 W.kitx_list I.dS ⟨_,g,rfl⟩ e (λz=>nomatch z) h
 | @tup a k d=>cases f;obtain⟨_,_,_,p⟩:=(I.hok a _ d);obtain⟨o,g,j,_⟩:=p.tup;exact Z2 W.kitx_tuple I.dS ⟨o,g,j⟩ e (λz=>nomatch z) h
 | @dK a l d=>cases f;obtain⟨_,_,B,_,⟨o,es,ep,g,j,_⟩⟩:=(I.hok a _ d);exact Z2 W.kitx_dict I.dS ⟨o,g,j.1⟩ e (λz=>nomatch z) h
 | @dT a l d=>cases f;obtain⟨_,_,k,_,o,es,ep,g,j,_⟩:=(I.hok a _ d);exact Z2 W.kitx_dict I.dS ⟨o,g,j.1⟩ e (λz=>nomatch z) h
 | @ins a C D fs d cl ha hn m hm=>cases f;obtain⟨F,O,_⟩:=Np I.hok d;obtain⟨od,J,_⟩:=O.look;exact Z2 (W.kitx_own (cl.get _) cl.hd ha hn m hm) I.dS J e (λz=>nomatch z) h
end
structure Room (k:Nat)(A:d8):Prop where
 hd:A.handled=Z8
 dp:A.depth+3*k+5<recursionLimit
 un:A.units+16*k+200<cLine
 gd:A.guards=Z9 []
theorem Room.mono (r:Room k A)(h:j<=k):Room j A:=⟨r.hd,by have:=r.dp;omega,by have:=r.un;omega,r.gd⟩
theorem Room.deeper (r:Room (k+1) A)(env:Env):Room k (A.deeper env):=⟨r.hd,by have:=r.dp;show A.depth+1+3*k+5<_;omega,by have:=r.un;show A.units+3+16*k+200<_;omega,r.gd⟩
theorem Nq {A:d8}:(A.under (.builtin "type.__call__" ⟨.ref C::a,b⟩)).depth=A.depth+1:=by first|rfl|simp[Around.under,Code.weight,Code.isCreation,Code.isGuard,Code.isCaller,Code.frames,Code.isFrame,guardIds]
theorem Nr {A:d8}:(A.under (.builtin "type.__call__" ⟨.ref C::a,b⟩)).units=A.units+1:=by first|rfl|simp[Around.under,Code.cUnits,Code.frames,Code.isFrame]
theorem Nt {A:d8}(h:A.guards=Z9 []):(A.under (.builtin "type.__call__" ⟨.ref C::a,b⟩)).guards=Z9 []:=by
 have e:(Code.builtin "type.__call__" ⟨.ref C::a,b⟩).guards=[]:=by first|rfl|simp[Code.guards,Code.isGuard,guardIds]
 unfold Around.under;simp only[e,h,pushGuards]
theorem Room.make (r:Room (k+1) A)(C:Addr)(a:List Value)(b:List (Str×Value)):Room k (A.under (.builtin "type.__call__" ⟨.ref C::a,b⟩)):=⟨r.hd,by have:=r.dp;rw[Nq];omega,by have:=r.un;rw[Nr];omega,Nt r.gd⟩
theorem Room.depth (r:Room k A):A.depth<recursionLimit:=by have:=r.dp;omega
theorem Room.units (r:Room k A):A.units+64<cLine:=by have:=r.un;omega
def iK:TA:=λ_ H Q=>Q [] H
def pK (ta:TE)(tr:TA):TA:=λσ H Q=>ta σ H λx H1=>tr σ H1 λxs H2=>Q (x::xs) H2
section
variable {X:Cx}{e:Expr}{es:List Expr}{te:TE}{t:TA}{pos:Pos}
theorem hU:PA X [] iK:=λ_ _ _ _ H Q I h=>Calls.spliced_nil ⟨[],H,I,.nil,h⟩
theorem zU (ha:PE X e te)(hr:PA X es t)(hs:fq (e::es) X.env=(Z6,eval e X.env)::fq es X.env:=by rfl):PA X (e::es) (pK te t):=by intro pos a s b H Q I h;rw[hs];refine Calls.spliced_cons (aI (ha a s b H _ I h) λu c ⟨x,d,f,g,i⟩=>?_);exact aI (hr pos a c b d _ f i) λo p ⟨j,k,l,m,n⟩=>⟨x::j,k,l,.cons g m,n⟩
def wN (t:TA):TE:=λσ H Q=>t σ H λxs H1=>xs.length<=bh/\∀p,H1 p=Z8->Q (.ref p) (upd H1 p (.tup xs))
def wO (t:TA):TE:=λσ H Q=>t σ H λxs H1=>xs.length<=bh/\∀p,H1 p=Z8->Q (.ref p) (upd H1 p (.lst xs))
theorem G3 {f}(h:PA X es t):PE X (.Tuple es f pos) (wN t):=by intro a s g H Q I i;refine wpAny_Tuple_spliced (aI (h pos a s g H _ I i) λj c ⟨k,l,d,r,z,q⟩=>⟨by rw[<-r.length];exact z,?_⟩);refine⟨.ref c.heap.objs.size,upd l c.heap.objs.size (.tup k),d.laid (λb u e=>af _ e) (ai _) ?_,rfl,q _ (d.hok.fresh (ai _))⟩;exact⟨z,j,r,⟨_,ax _ rfl⟩⟩
theorem B8 (h:PA X es t):PE X (.List es pos) (wO t):=by intro a s f H Q I g;refine wpAny_List_spliced (aI (h pos a s f H _ I g) λi c ⟨j,k,d,r,z,q⟩=>⟨by rw[<-r.length];exact z,?_⟩);refine⟨.ref c.heap.objs.size,upd k c.heap.objs.size (.lst j),d.laid (λb u e=>af _ e) (ai _) ?_,rfl,q _ (d.hok.fresh (ai _))⟩;exact⟨z,i,0,r,ax _ rfl⟩
end
abbrev Sp:=List V->Hp->VK->XK->Prop
abbrev CXT:=List Env->Hp->aq->XK->Value->aq->Prop
structure jH (P:cg)(w:World)(K:Z5)(mg:Str->Option Value)(base:Heap)(A:d8)(outer:List Env)(s:aq)(H:Hp):Prop where
 frames:A.frames=Z9 outer
 mod:Mod K mg base
 bs:∀b o,base.get? b=Z9 o->s.heap.get? b=Z9 o/\H b=Z8
 iG:base.objs.size<=s.heap.objs.size
 bV:s.heap.FunFrames base outer
 kU:∀b∈frs outer,H b=Z8
 hok:HOk P w H s.heap
 bare:ph s.gens
def CE (outer:List Env)(P:cg)(w:World)(H:Hp)(s:aq)(Q:VK)(u:Value)(s':aq):Prop:=∃v H',s'.os=s.os/\ph s'.gens/\Un (frs outer) [] H H' s.heap s'.heap/\HOk P w H' s'.heap/\RelV v u/\Q v H'
def CR (CX:CXT)(outer:List Env)(P:cg)(w:World)(H:Hp)(s:aq)(Q:VK)(E:XK)(r:x9)(s':aq):Prop:=
 match r with
 |.ok (.ret u)=>CE outer P w H s Q u s'
 |.ok _=>False
 |.error e=>CX outer H s E e s'
structure FnOk (P:cg)(w:World)(K:Z5)(mg:Str->Option Value)(base:Heap)(CX:CXT)(k:Nat)(f:Addr)(fd:i4)(ps:List Str)(sp:Sp):Prop where
 len:∀vs H Q E,sp vs H Q E->vs.length=ps.length
 run:∀(A:d8) (outer:List Env) (s:aq) (H:Hp) (args:Args) (us:List Value) (vs:List V) (Q:VK) (E:XK),Room k A->jH P w K mg base A outer s H->uf s fd args (ps.zip us)->Vals vs us->sp vs H Q E->ku (model P w) A (.call (.ref f) args) (CR CX outer P w H s Q E) s
theorem jH.make {K:Z5}(e:jH P w K mg base A outer s H)(C:Addr)(a:List Value)(b:List (Str×Value)): jH P w K mg base (A.under (.builtin "type.__call__" ⟨.ref C::a,b⟩)) outer s H:=⟨by first|exact e.frames|(simpa[Around.under,Code.envs,Code.isFrame,pushEnvs]using e.frames),e.mod,e.bs,e.iG,e.bV,e.kU,e.hok,e.bare⟩
section
variable {X:Cx}{pins:List (Addr×Obj)}{σ:St}{H:Hp}{s s':aq}
theorem Inv.wQ (I:Inv X pins σ H s):jH X.prog X.w X.K X.mg X.base X.A X.stack s H:=⟨I.ok.frames,I.ok.mod,I.bs,bp I.ok.iG I.sz,I.stack,I.fR,I.hok,I.bare⟩
theorem Inv.after (I:Inv X pins σ H s)(h:CE X.stack X.prog X.w H s Q u s'):EP X pins σ Q u s':=by obtain⟨v,c,os,bare,un,hok,r,q⟩:=h;obtain⟨e,g,d,t,a⟩:=s';obtain rfl:a=s.os:=os;exact⟨v,c,I.call un hok bare (λb z=>absurd z (by simp)),r,q⟩
end
def uC (sp:Sp)(dvs:List V)(E:XK)(t:TA):TE:=λσ H Q=>t σ H λvs H1=>sp (vs++dvs) H1 Q E
def Binds (K:Z5)(fd:i4)(ps:List Str)(ds:List Value):Prop:=∀(s:aq) (us:List Value),K.In s.heap->(us++ds).length=ps.length->uf s fd ⟨us,[]⟩ (ps.zip (us++ds))
theorem Binds.all {K:Z5}(h:∀a,a.length=ps.length->xu fd ⟨a,[]⟩=pure (ps.zip a)):Binds K fd ps []:=λs a _ hl=>by rw[d6]at hl ⊢;exact .of_eq (h a hl)
def z6d (CX:CXT)(X:Cx)(E:XK):Prop:=∀(pins:List (Addr×Obj)) (σ:St) (H:Hp) (s:aq) (e:Value) (s':aq),Inv X pins σ H s->CX X.stack H s E e s'->X.xe e s'
section
variable {X:Cx}{CX:CXT}{k:Nat}{f C:Addr}{fd:i4}{ps:List Str}{sp:Sp}{dvs:List V}{ds:List Value}{E:XK}{x m:Str}{p pos apos:Pos}{e o:Expr}{es:List Expr}{ta:TE}{t:TA}
theorem zoo (F:FnOk X.prog X.w X.K X.mg X.base CX k f fd ps sp)(hr:Room k X.A)(hb:Binds X.K fd ps ds)(hd:Vals dvs ds)(hx:z6d CX X E)
  (I:Inv X a d H s) (r:Vals g c) (h:sp (g++dvs) H Q E):wpAny (model X.prog X.w) X.A (call (.ref f) c) (EP X a d Q) X.xe s:=by
 have i:=r.append hd;refine vo (ky (F.run X.A X.stack s H ⟨c,[]⟩ (c++ds) (g++dvs) Q E hr I.wQ (hb s c I.dS (i.length▸F.len _ _ _ _ h)) i h) λr j b=>?_);cases r with
 |error e=>exact hx a d H s e j I b
 |ok l=>
  cases l with
  |ret u=>exact I.after b
  |next=>exact False.elim b
  |brk=>exact False.elim b
  |cont=>exact False.elim b
theorem zdc (F:FnOk X.prog X.w X.K X.mg X.base CX k f fd ps sp)(hr:Room k X.A)(g:Gl X x)(hm:X.mg x=Z9 (.ref f))(hk:Z3 X.K (.ref f)=Z7)(hb:Binds X.K fd ps ds)(hd:Vals dvs ds)(hx:z6d CX X E)
  (ha:PA X (e::es) t) (b:XX x:=by decide) (i:fq (e::es) X.env=(Z6,eval e X.env)::fq es X.env:=by rfl) (c:(ow pos (fq es X.env)).any (·.1)=false:=by rfl):
  PE X (.Call (.Name x p) (e::es) [] pos) (uC sp dvs E t):=by
 intro a s j H Q I h;refine l6 (z3v I g hm ?_ b);refine W.callWith_K I.ok.mod.zQ hk (aI (ha pos a s j H _ I h) λl m ⟨n,o,d,r,q⟩=>⟨d.dS,?_⟩) i c;exact zoo F hr hb hd hx d r q
structure Mk (K:Z5)(C f:Addr):Prop where
 makes:W.makesIn K C=Z7
 init:Z4 K (.ref C) "__init__"=Z9 (Z9 (.ref f))
 fn:W.isFn K (.ref f)=Z7
 kp:Z3 K (.ref C)=Z7
end
section
variable {X:Cx}{CX:CXT}{k:Nat}{f C:Addr}{fd:i4}{ps ks:List Str}{sp:Sp}{E:XK}{x m:Str}{p pos apos Nu:Pos}{e o:Expr}{es:List Expr}{Xx:List wc}{te ta:TE}{t tk:TA}{nm:Option Str}
structure qY (K:Z5)(fd:i4)(ps ks:List Str)(g:List Value->List Value->List Value)(gV:List V->List V->List V):Prop where
 to:∀(s:aq) (us ws:List Value),K.In s.heap->(g us ws).length=ps.length->uf s fd ⟨us,ks.zip ws⟩ (ps.zip (g us ws))
 rel:∀{vs:List V} {us:List Value} {zs:List V} {ws:List Value},Vals vs us->Vals zs ws->Vals (gV vs zs) (g us ws)
variable {g:List Value->List Value->List Value}{gV:List V->List V->List V}
end
structure FnScope (N P:List Str)(sc:Scope):Prop where
 kind:sc.kind=.function
 co:sc.isCoroutine=Z6
 gen:sc.isGenerator=Z6
 nd:N.Nodup
 pre:N.take P.length=P
 par:∀x∈P,sc.names.lookup x=Z9 .local\/sc.names.lookup x=Z9 .cell
 qZ:∀y∈sc.names,y.2≠.free
theorem G4 {a:Str->Option jb}:∀{binds:List (Str×Value)} {m:Str->Option Value},(∀v,(x,v)∉binds)->bindL a binds m x=m x
 | [],_,_=>rfl
 |(n,v)::r,m,h=>by
  unfold bindL;rw[G4 λw b=>h w (ay _ b)];split
  .have :x≠n:=by rintro rfl;exact h v bb
   simp[this]
  .rfl
theorem G5 {a:Str->Option jb}:∀{binds:List (Str×Value)} {m:Str->Option Value},(∀v,(x,v)∉binds)->bindC a binds m x=m x
 | [],_,_=>rfl
 |(n,v)::r,m,h=>by
  unfold bindC;rw[G5 λw b=>h w (ay _ b)];split
  .rfl
  .have :x≠n:=by rintro rfl;exact h v bb
   simp[this]
theorem z5v {a:Str->Option jb}:∀{P:List Str} {b:List Value} {i:Nat} {m:Str->Option Value},P.Nodup->P[i]?=Z9 x->b[i]?=Z9 v->a x=Z9 .local->
  bindL a (P.zip b) m x=Z9 v
 | [],_,_,_,_,h,_,_=>by simp at h
 |_::_,[],_,_,_,_,h,_=>by simp at h
 |p::P,w::b,0,m,nd,c,d,hk=>by simp at c d;subst c;subst d;show bindL a ((p,w)::P.zip b) m p=_;unfold bindL;rw[G4 λv e=>(cz.mp nd).1 (jj e).1,ya hk];simp
 |p::P,w::b,i+1,m,nd,c,d,hk=>by show bindL a ((p,w)::P.zip b) m x=_;exact z5v (cz.mp nd).2 (by simpa using c) (by simpa using d) hk
theorem z6e {a:Str->Option jb}:∀{P:List Str} {b:List Value} {i:Nat} {m:Str->Option Value},P.Nodup->P[i]?=Z9 x->b[i]?=Z9 v->a x≠Z9 .local->
  bindC a (P.zip b) m x=Z9 v
 | [],_,_,_,_,h,_,_=>by simp at h
 |_::_,[],_,_,_,_,h,_=>by simp at h
 |p::P,w::b,0,m,nd,c,d,hk=>by simp at c d;subst c;subst d;show bindC a ((p,w)::P.zip b) m p=_;unfold bindC;rw[G5 λv e=>(cz.mp nd).1 (jj e).1,yb hk];simp
 |p::P,w::b,i+1,m,nd,c,d,hk=>by show bindC a ((p,w)::P.zip b) m x=_;exact z6e (cz.mp nd).2 (by simpa using c) (by simpa using d) hk
def start (N:List Str)(vs:List V):St:=vs.map Z9++bo (N.length-vs.length) Z8
def gK (CX:CXT)(P:cg)(w:World)(K:Z5)(mg:Str->Option Value)(base:Heap)(N:List Str)(qual:Str)(scope:Scope)(f:Addr)(cd:Value)(A:d8)(outer:List Env)(s:aq)(H:Hp)(E:XK):Cx where
 prog:=P
 w:=w
 K:=K
 mg:=mg
 base:=base
 A:=A.deeper (tt qual scope s.heap.objs.size f cd)
 N:=N
 s₀:=s
 gE:=H
 env:=tt qual scope s.heap.objs.size f cd
 outer:=outer
 stack:=tt qual scope s.heap.objs.size f cd::outer
 ex:=[]
 calm:=Z7
 fn:=λ_=>Z7
 pn:=[]
 xe:=λe s'=>wpAny (model P w) (A.deeper (tt qual scope s.heap.objs.size f cd)) (xq (tt qual scope s.heap.objs.size f cd) e) (λ_ rA=>CX outer H s E e rA) (λe' rA=>CX outer H s E e' rA) s'
theorem G6 {sc:Scope}(h:sc.names.lookup x=Z9 .cell):∃c,(cellsFrom n sc.names []).lookup x=Z9 c:=by exact Option.isSome_iff_exists.mp (W.cellsFrom_some sc.names n [] (.inl h))
theorem zcc {K:Z5}
  (S:FnScope N ps scope) (hd:A.handled=Z8) (j:jH P w K mg base A outer s H) (hl:n.length=ps.length) (r:Vals n D)
  (x:InCallC s s.heap.objs.size (bindL (tt g scope s.heap.objs.size f cd).kindOf (ps.zip D) λ_=>Z8) (cellsFrom (s.heap.objs.size+1) scope.names []) (bindC (tt g scope s.heap.objs.size f cd).kindOf (ps.zip D) λ_=>Z8) F):
  Inv (gK G P w K mg base N g scope f cd A outer s H E) [] (start N n) H F:=by
 have I:=by have:=congrArg tu S.pre;rw[g9]at this;omega
 obtain⟨B,J,rfl,hk⟩:=x.done;have l:∀b,b∉(gK G P w K mg base N g scope f cd A outer s H E).ex:=λb z=>absurd (show b∈([]:List Addr)from z) (by simp);refine⟨⟨j.mod,S.kind,rfl,rfl,ai _,λy z c B d=>?_,λy m=>?_,λy c _ h=>?_,λ_=>hd,Around.frames_deeper j.frames,.inr ⟨rfl,rfl⟩,λb z=>absurd z (l b),j.bs,j.iG,λb _ _=>l b,λb z=>absurd z (l b),j.bV,j.kU,λ_ _ z=>by cases z⟩,rfl,j.bare,Un.kept hk,⟨_,x.toInCall.ns,λi y v B d L=>?_⟩,λy c h=>⟨_,x.cell y c h⟩,j.hok.fresh (ai _),λy c h=>?_,λp o=>absurd (show p∈([]:List (Addr×Obj))from o) (by simp),j.hok.kept hk,?_,λ_ _ z=>by cases z⟩
 .exact name_of_addr x.apart (PySem.mem_of_lookup B) (PySem.mem_of_lookup d)
 .have m:scope.names.lookup y=Z9 .cell\/scope.names.lookup y=Z9 .free:=m;rcases m with m|m
  .exact G6 m
  .exact absurd rfl (S.qZ _ (PySem.mem_of_lookup m))
 .exact kr (x.above y c (PySem.mem_of_lookup h))
 .have C:i<n.length:=by
   unfold start at d;by_cases C:i<n.length
   .exact C
   .rw[kj (by simpa using C)]at d;rw[fh]at d;split at d<;>cases d
  have ha:n[i]?=Z9 v:=by
   unfold start at d;rw[jg (by simpa using C),ar]at d;cases e:n[i]? with
   |none=>rw[e]at d;cases d
   |some a=>rw[e]at d;cases d;rfl
  obtain⟨u,hu,rv⟩:=r.get ha;have o:ps[i]?=Z9 y:=by rw[<-S.pre,List.getElem?_take_of_lt (by omega)];exact B
  have t:ps.Nodup:=S.pre▸S.nd.sublist (mn _ _);refine⟨u,rv,?_⟩;rcases S.par y (bt o)with k|k
  .exact .inl ⟨k,z5v t o hu k⟩
  .obtain⟨c,e⟩:=G6 k;refine .inr ⟨.inl k,c,e,?_⟩;have q:=x.cell y c e;rw[z6e t o hu (by show scope.names.lookup y≠_;rw[k];decide)]at q;exact q
 .exact j.hok.fresh (kr (x.above y c (PySem.mem_of_lookup h)))
 .unfold start;show _=N.length;rw[bq,ae,dg];omega
theorem zmv {K:Z5}{kV:Value}
  (M:K.lookup f=Z9 ⟨oc,od,.func (W.fnOf m a params g scope O kV C R an c ct),T⟩) (D:W.codeIn K c a=Z7) (S:FnScope N ps scope)
  (len:∀h H Q E,G h H Q E->h.length=ps.length)
  (j:∀A outer s H h Q E,Room k (A.deeper (tt a scope s.heap.objs.size f c))->G h H Q E->∃t,PSs (gK I P w K mg base N a scope f c A outer s H E) g t/\t {nx:=λ_ i=>Q .non i,rt:=Q} (start N h) H):
  FnOk P w K mg base I (k+1) f (W.fnOf m a params g scope O kV C R an c ct) ps G:=by
 refine⟨len,λA outer s H args U h Q E hr p hb r z=>?_⟩;have L:=p.mod.zQ.keeps λb o e=>(p.bs b o e).1
 have l:∀y∈ps.zip U,scope.names.lookup y.1=Z9 .local\/(scope.names.lookup y.1=Z9 .cell/\((cellsFrom (s.heap.objs.size+1) scope.names []).lookup y.1).isSome=Z7):=λ⟨n,v⟩ X=>by
  rcases S.par n (jj X).1 with q|q
  .exact .inl q
  .exact .inr ⟨q,W.cellsFrom_some _ _ _ (.inl q)⟩
 refine codeAny_call_function hr.depth (L _ _ M) rfl S.co S.gen rfl (W.codeRec_of L D) (hb _ _ _ _ ?_);refine wpAny_newFunctionEnv_cells S.kind l λenv Y s1 x=>?_;subst Y;refine⟨(p.mod.nolimit.keeps λb o e=>(p.bs b o e).1).keeps x.toInCall.keep,codeAny_func ?_⟩;obtain⟨t,ht,hq⟩:=j A outer s H h Q E (hr.deeper _) z;refine gq (ht [] s1 (start N h) H _ (zcc S hr.hd p (len _ _ _ _ z) r x) hq) (λfl F hs=>?_) λe F hs=>hs;have B:∀{d:St} {i:Hp} {v:V} {u:Value},Inv (gK I P w K mg base N a scope f c A outer s H E) [] d i F->RelV v u->Q v i->CE outer P w H s Q u F:=λ{d i v u} J rv q=>⟨v,i,J.os,J.bare,J.base,J.hok,rv,q⟩;cases fl with
 |ret u=>obtain⟨v,d,i,J,rv,q⟩:=hs;exact B J rv q
 |next=>obtain⟨d,i,J,q⟩:=hs;exact B (v:=V.non) J rfl q
 |brk=>obtain⟨_,_,_,q⟩:=hs;exact False.elim q
 |cont=>obtain⟨_,_,_,q⟩:=hs;exact False.elim q
section
variable {X:Cx}{x:Str}{p pos:Pos}{e:Expr}{es:List Expr}{t:TA}{id T:String}{r:List V->Hp->VK->Prop}
def mZ (r:List V->Hp->VK->Prop)(t:TA):TE:=λσ H Q=>t σ H λvs H1=>r vs H1 Q
theorem zgj (f:CallR X (.builtin id) r)(g:Gl X x)(hm:X.mg x=Z8)(i:db x=Z9 (.builtin id))(ha:PA X (e::es) t)(hn:x≠"__name__":=by decide)(b:XX x:=by decide)
  (j:fq (e::es) X.env=(Z6,eval e X.env)::fq es X.env:=by rfl) (c:(ow pos (fq es X.env)).any (·.1)=false:=by rfl):PE X (.Call (.Name x p) (e::es) [] pos) (mZ r t):=by
 intro a s d H Q I h;refine l6 (z2d I g hm i ?_ hn b);exact PyProof.Rows.callWith_builtin1 (aI (ha pos a s d H _ I h) λk l ⟨m,n,o,q,u⟩=>f a l d n m k Q o q u) j c
theorem zei (f:CallR X (.type T) r)(g:Gl X x)(hm:X.mg x=Z8)(i:db x=Z9 (.type T))(ha:PA X (e::es) t)(hn:x≠"__name__":=by decide)(b:XX x:=by decide)
  (j:fq (e::es) X.env=(Z6,eval e X.env)::fq es X.env:=by rfl) (c:(ow pos (fq es X.env)).any (·.1)=false:=by rfl):PE X (.Call (.Name x p) (e::es) [] pos) (mZ r t):=by
 intro a s d H Q I h;refine l6 (z2d I g hm i ?_ hn b);exact PyProof.Rows.callWith_type1 (aI (ha pos a s d H _ I h) λk l ⟨m,n,o,q,u⟩=>f a l d n m k Q o q u) j c
end
section
variable {κ:Type} [DecidableEq κ]
def cJ (kvs:List (κ×V))(k:κ):Option V:=(kvs.find? λkv=>decide (kv.1=k)).map (·.2)
def putK (kvs:List (κ×V))(k:κ)(v:V):List (κ×V):=if(kvs.any λkv=>decide (kv.1=k))=Z7 then kvs.map (λkv=>if kv.1=k then(kv.1,v)else kv)else kvs++[(k,v)]
theorem zV {p:κ×V}(e:p.1=k):cJ (p::r) k=Z9 p.2:=by simp[cJ,fy,e]
theorem zW {p:κ×V}(e:¬p.1=k):cJ (p::r) k=cJ r k:=by simp[cJ,fy,e]
theorem G7 (k:κ):∀a,(a.any λb=>decide (b.1=k))=(cJ a k).isSome
 | []=>rfl
 |p::r=>by
  rw[lq];by_cases e:p.1=k
  .simp only[zV e,yf e,we,Option.isSome_some]
  .rw[zW e,yg e];exact G7 k r
theorem B9 (a:List (κ×V))(k:κ)(v:V):(putK a k v).length<=a.length+1:=by
 unfold putK;split
 .rw[ae];omega
 .rw[bq,bu,ox];omega
theorem dD.bP (r:dD o u):o.isSome=u.isSome:=by
 cases o with
 |none=>cases u with
  |none=>rfl
  |some _=>exact r.elim
 |some _=>cases u with
  |none=>exact r.elim
  |some _=>rfl
theorem dD.getD (r:dD o u)(rd:RelV d a):RelV (o.getD d) (u.getD a):=by
 cases o with
 |none=>cases u with
  |none=>exact rd
  |some _=>exact r.elim
 |some _=>cases u with
  |none=>exact r.elim
  |some _=>exact r
theorem KV.val (r:KV a g)(k:κ):dD (cJ a k) (wf g k):=by
 induction r with
 |nil=>exact True.intro
 | @cons p q ps c h t i=>
  obtain⟨f,j⟩:=h;by_cases e:p.1=k
  .have d:q.1=k:=f.symm.trans e;have b:wf (q::c) k=Z9 q.2:=by simp[wf,fy,d]
   rw[zV e,b];exact j
  .have d:¬q.1=k:=λz=>e (f.trans z);have b:wf (q::c) k=wf c k:=by simp[wf,fy,d]
   rw[zW e,b];exact i
theorem KV.any (r:KV a c)(k:κ):(a.any λb=>decide (b.1=k))=c.any λb=>decide (b.1=k):=by
 induction r with
 |nil=>rfl
 |cons h t d=>rw[lq,lq,d,h.1]
theorem KV.repl (r:KV c d)(k:κ)(f:RelV y u):
  KV (c.map λa=>if a.1=k then(a.1,y)else a) (d.map λa=>if a.1=k then(a.1,u)else a):=by
 induction r with
 |nil=>exact .nil
 | @cons p q ps j h t g=>
  rw[br,br];refine .cons ?_ g;obtain⟨b,i⟩:=h;by_cases e:p.1=k
  .rw[ya e,ya (b.symm.trans e)];exact⟨b,f⟩
  .rw[yb e,yb (λz=>e (b.trans z))];exact⟨b,i⟩
theorem KV.put (r:KV a b)(k:κ)(c:RelV y u):KV (putK a k y) (stored b k u):=by
 unfold putK stored;rw[r.any k];by_cases e:(b.any λd=>decide (d.1=k))=Z7
 .rw[ya e,ya e];exact r.repl k c
 .rw[yb e,yb e];exact Paired.snoc r ⟨rfl,c⟩
theorem KV.length (r:KV kvs vs):kvs.length=vs.length:=Paired.length r
end
theorem rC (r:RelV (kV k) u):(z0k P w).is k u=true:=by
 cases k with
 |inl i=>obtain⟨t,e⟩:=r;subst e;exact Mz P w i t
 |inr x=>obtain⟨t,e⟩:=r;subst e;exact MA P w x t
theorem G8:∀{ks:List Key} {a:List Value},Vals (ks.map kV) a->ItemsAre (z0k P w) ks a
 | [],_,r=>by rw[List.map_nil]at r;cases r;exact .nil
 |k::ks,_,r=>by
  cases r with
  |cons h t=>exact .cons (rC h) (G8 t)
abbrev KT (H:Hp):List (List Key×V)->List (List Key×Addr×Value)->Prop:=l5 λp q=>p.1=q.1/\H q.2.1=Z9 (.tup (p.1.map kV))/\RelV p.2 q.2.2
theorem KT.val (r:KT H a g)(k:List Key):dD (cJ a k) ((atKey g k).map (·.2)):=by
 induction r with
 |nil=>exact True.intro
 | @cons p q ps c h t i=>
  obtain⟨f,_,j⟩:=h;by_cases e:p.1=k
  .have d:q.1=k:=f.symm.trans e;have b:atKey (q::c) k=Z9 q.2:=by simp[atKey,fy,d]
   rw[zV e,b];exact j
  .have d:¬q.1=k:=λz=>e (f.trans z);have b:atKey (q::c) k=atKey c k:=by simp[atKey,fy,d]
   rw[zW e,b];exact i
theorem KT.repl (r:KT H b f)(k:List Key)(g:RelV y u):
  KT H (b.map λc=>if c.1=k then(c.1,y)else c) (f.map (putAt k u)):=by
 induction r with
 |nil=>exact .nil
 | @cons p q ps l h t i=>
  rw[br];refine .cons ?_ i;obtain⟨a,d,j⟩:=h;unfold putAt;by_cases e:p.1=k
  .rw[ya e,ya (a.symm.trans e)];exact⟨a,d,g⟩
  .rw[yb e,yb (λz=>e (a.trans z))];exact⟨a,d,j⟩
theorem KT.put (r:KT H kvs xs)(k:List Key)(hb:H b=Z9 (.tup (k.map kV)))(ry:RelV y u):
  KT H (putK kvs k y) (storedH xs k b u):=by
 have e:(kvs.any λkv=>decide (kv.1=k))=(atKey xs k).isSome:=by rw[G7,(r.val k).bP,qf]
 unfold putK storedH;rw[e];by_cases q:(atKey xs k).isSome=Z7
 .rw[ya q,ya q];exact r.repl k ry
 .rw[yb q,yb q];exact Paired.snoc r ⟨rfl,hb,ry⟩
theorem KT.keeps (r:KT H a d)(ht:∀b c,H b=Z9 (.tup c)->e b=Z9 (.tup c)):KT e a d:=Paired.qP r λ_ _ z=>⟨z.1,ht _ _ z.2.1,z.2.2⟩
section
variable {P:cg}{w:World}{H:Hp}{h:Heap}{a:Addr}
theorem G9 (ok:HOk P w H h)(e:Rd H a u):z1b P w H h a u:=e.ok ok
theorem rD (ok:HOk P w H h)(e:Rd H a (.dK b)):b.length<=bh/\(a==j9)=Z6/\∃c,KV b c/\h.DictOf (z0k P w) a c:=show z1b P w H h a (.dK b)from G9 ok e
theorem zg9 (ok:HOk P w H h)(e:H a=Z9 (.dK kvs)):kvs.length<=bh/\(a==j9)=Z6/\∃vs,KV kvs vs/\h.DictOf (z0k P w) a vs:=rD ok (.inl e)
theorem uE (ok:HOk P w H h)(e:H a=Z9 (.tup (ks.map kV))):(qu (z0k P w)).is h ks a:=by obtain⟨_,b,r,n,c⟩:=(ok a _ e);exact⟨_,b.toArray,n,c,rfl,rfl,by simpa using G8 r⟩
theorem z9p (ok:HOk P w H h)(e:Rd H a (.dT b)):b.length<=bh/\(a==j9)=Z6/\
  ∃c,KT H b c/\h.DictOfH (qu (z0k P w)) a c:=by
 obtain⟨z,y,c,r,o,es,ep,f,g,i,j,k⟩:=(G9 ok e);refine⟨z,y,c,r,o,es,ep,f,g,i,j,λx hx=>?_,k⟩
 have all:∀{l:List (List Key×V)} {m:List (List Key×Addr×Value)},KT H l m->∀x∈m,(qu (z0k P w)).is h x.1 x.2.1:=by
  intro l m q
  induction q with
  |nil=>intro x hx;exact nomatch hx
  | @cons p q ps s d t n=>
   intro x hx;rcases au.mp hx with e|hx
   .subst e;exact uE ok (d.1▸d.2.1)
   .exact n x hx
 exact all r x hx
theorem Nv (ok:HOk P w H h)(e:H a=Z9 (.dT b)):b.length<=bh/\(a==j9)=Z6/\∃c,KT H b c/\h.DictOfH (qu (z0k P w)) a c:=z9p ok (.inl e)
end
def DGet (H:Hp)(a:Addr)(y:V)(r:Option V):Prop:=(∃kvs k,Rd H a (.dK kvs)/\y=kV k/\r=cJ kvs k)\/∃kvs k b,Rd H a (.dT kvs)/\y=.ref b/\H b=Z9 (.tup (k.map kV))/\r=cJ kvs k
def DPut (H:Hp)(a:Addr)(y v:V)(H':Hp):Prop:=
 (∃kvs k,H a=Z9 (.dK kvs)/\y=kV k/\kvs.length<bh/\H'=upd H a (.dK (putK kvs k v)))\/
 ∃kvs k b,H a=Z9 (.dT kvs)/\y=.ref b/\H b=Z9 (.tup (k.map kV))/\kvs.length<bh/\H'=upd H a (.dT (putK kvs k v))
theorem DGet.k {k:Key}(e:H a=Z9 (.dK b)):DGet H a (kV k) (cJ b k):=.inl ⟨b,k,.inl e,rfl,rfl⟩
theorem DPut.k {k:Key}(e:H a=Z9 (.dK b))(hl:b.length<bh):DPut H a (kV k) v (upd H a (.dK (putK b k v))):=.inl ⟨b,k,e,rfl,hl,rfl⟩
section
variable {X:Cx}{pins:List (Addr×Obj)}{σ:St}{H:Hp}{s:aq}{a:Addr}{y v:V}{u r:Value}{o:Option V}{A:d8}{E:Value->aq->Prop}
theorem Inv.big (I:Inv X pins σ H s):j9<s.heap.objs.size:=by exact mo (by decide) ((I.mod.glob.keeps I.bk).lt)
theorem ze3 (hu:A.units+1<cLine)(I:Inv X pins σ H s)(g:DGet H a y (Z9 v))(n:RelV y u)(h:∀d o,Inv X pins σ H o->RelV v d->Q d o):
  wpAny (model X.prog X.w) A (wg (.ref a) u) Q E s:=by
 rcases g with⟨f,k,e,i,l⟩|⟨f,k,b,e,i,q,l⟩
 .subst i;obtain⟨z,hd,t,rel,dd⟩:=rD I.hok e;obtain⟨d,j,c⟩:=dD.some_of (l▸rel.val k);exact wpAny_getItem_of (rC n) dd.mapOf j (h d _ (I.tok _) c)
 .subst i;cases n;obtain⟨z,hd,x,rel,dd⟩:=z9p I.hok e;obtain⟨d,j,c⟩:=dD.some_of (l▸rel.val k);obtain⟨p,r,m⟩:=bc.mp j;refine wpAny_getItem_heap (j0 hu) (uE I.hok q) dd r ?_;rw[m];exact h d _ (I.tok _) c
theorem d_in (hu:A.units+1<cLine)(I:Inv X pins σ H s)(g:DGet H a y o)(f:RelV y u)(h:∀i,Inv X pins σ H i->Q (.bool o.isSome) i):
  wpAny (model X.prog X.w) A (ge .In u (.ref a)) Q E s:=by
 rcases g with⟨c,k,e,d,l⟩|⟨c,k,b,e,d,j,l⟩
 .subst d;obtain⟨z,hd,m,rel,dd⟩:=rD I.hok e;refine wpAny_in_of (rC f) hd dd.mapOf ?_;rw[<-(rel.val k).bP,<-l];exact h _ (I.tok _)
 .subst d;cases f;obtain⟨z,hd,n,rel,dd⟩:=z9p I.hok e;refine wpAny_in_heap (j0 hu) (uE I.hok j) hd dd ?_;have q:=(rel.val k).bP;rw[qf]at q;rw[<-q,<-l];exact h _ (I.tok _)
theorem zl7 (hu:A.units+1<cLine)(I:Inv X pins σ H s)(g:DGet H a y o)(f:RelV y u)(h:∀i,Inv X pins σ H i->Q (.bool (!o.isSome)) i):
  wpAny (model X.prog X.w) A (ge .NotIn u (.ref a)) Q E s:=by
 rcases g with⟨c,k,e,d,l⟩|⟨c,k,b,e,d,j,l⟩
 .subst d;obtain⟨z,hd,m,rel,dd⟩:=rD I.hok e;refine wpAny_notIn_of (rC f) hd dd.mapOf ?_;rw[<-(rel.val k).bP,<-l];exact h _ (I.tok _)
 .subst d;cases f;obtain⟨z,hd,n,rel,dd⟩:=z9p I.hok e;refine wpAny_notIn_heap (j0 hu) (uE I.hok j) hd dd ?_;have q:=(rel.val k).bP;rw[qf]at q;rw[<-q,<-l];exact h _ (I.tok _)
theorem z78 (I:Inv X pins σ H s)(mu:Mut (H a))(hs:ci a s.heap c)(e:∃q,c.get? a=Z9 q)(new:z1b X.prog X.w (upd H a d) c a d):
  Inv X pins σ (upd H a d) {s with heap:=c,toks:=t'}:=
 I.write mu (.inl rfl) (λb q hb z=>(hs.2 b hb).trans z) e new
theorem G' (z:b.length<=bh)(hd:(a==j9)=Z6)(rel:KV b c)(dd:d.DictOf (z0k P w) a c): z1b P w e d a (.dK b):=⟨z,hd,c,rel,dd⟩
theorem zdq (hu:A.units+1<cLine)(I:Inv X pins σ H s)(g:DPut H a y v B)(n:RelV y u)(rv:RelV v r)(h:∀o,Inv X pins σ B o->Q () o):
  wpAny (model X.prog X.w) A (setItem (.ref a) u r) Q E s:=by
 rcases g with⟨f,k,e,j,l,m⟩|⟨f,k,b,e,j,p,l,m⟩
 .subst j m;obtain⟨z,hd,C,rel,dd⟩:=zg9 I.hok e;have t:C.length<=bh:=rel.length▸z;exact wpAny_setItem_pairs (hsz:=t) (rC n) dd λD d hs=>h _ (z78 I (e▸True.intro) hs (let⟨q,_,_,i,_⟩:=d;⟨q,i⟩) (G' (by have:=B9 f k v;omega) hd (rel.put k rv) d))
 .subst j m;cases n;obtain⟨z,hd,F,rel,dd⟩:=Nv I.hok e;have t:F.length<=bh:=Paired.length rel▸z;refine wpAny_setItem_heap (j0 hu) (uE I.hok p) dd λD d hs=>h _ ?_;obtain⟨q,es,ep,i,G,J,K,_,L⟩:=d;refine z78 I (e▸True.intro) hs ⟨q,i⟩ ⟨(by have:=B9 f k v;omega),hd,_,(rel.put k p rv).keeps λc M x=>?_,q,es,ep,i,G,J,K,L⟩;rw[aB (MB x e (λz=>nomatch z))];exact x
end
section
variable {X:Cx}{pins:List (Addr×Obj)}{σ:St}{H:Hp}{s:aq}{a:Addr}{kvs:List (Key×V)}{k:Key}{u:Value}{A:d8}{E:Value->aq->Prop}
theorem Nw (I:Inv X pins σ H s)(e:Rd H a (.dK kvs))(h:∀t b,Inv X pins σ H b->Q (.int kvs.length t) b):wpAny (model X.prog X.w) A (call (.builtin "len") [.ref a]) Q E s:=by obtain⟨z,hd,c,rel,dd⟩:=rD I.hok e;refine call_len_dict hd dd (by rw[<-rel.length];rw[dw]at z;omega) ?_;rw[<-rel.length];exact h _ _ (I.tok _)
end
theorem Ny (I:Inv X d f H s)(g:DGet H a y o):s.TypeIs (.ref a) "dict":=by
 rcases g with⟨c,k,e,_,_⟩|⟨c,k,b,e,_,_,_⟩
 .obtain⟨_,_,h,_,dd⟩:=rD I.hok e;exact dd.typeIs
 .obtain⟨_,_,i,_,dd⟩:=z9p I.hok e;exact dd.typeIs
theorem Hc (h:Heap)(hb:j9<h.objs.size):z1b P w H (h.push {cls:=.type "dict",data:=.dict #[]}) h.objs.size (.dK []):=⟨cy _,beq_eq_false_iff_ne.mpr (Ne.symm (cu hb)),[],.nil,Heap.DictOf.new h⟩
def Hd:TE:=λ_ H Q=>∀p,H p=Z8->Q (.ref p) (upd H p (.dK []))
section
variable {X:Cx}{pos:Pos}
theorem He:PE X (.Dict [] [] pos) Hd:=λa s b H Q I h=>wpAny_Dict_empty ⟨.ref s.heap.objs.size,_,I.laid (λ_ _ q=>af _ q) (ai _) (Hc s.heap I.big),rfl,h _ (I.hok.fresh (ai _))⟩
end
section
variable {X:Cx}{pins:List (Addr×Obj)}{σ:St}{H:Hp}{s:aq}{a:Addr}{y d:V}{u r:Value}{o:Option V}{A:d8}{E:Value->aq->Prop}
theorem zp7 (hu:A.units+1<cLine)(I:Inv X pins σ H s)(g:DGet H a y o)(i:RelV y u)(rd:RelV d r)(h:∀j m,Inv X pins σ H m->RelV (o.getD d) j->Q j m):
  wpAny (model X.prog X.w) A (call (.builtin "dict.get") [.ref a,u,r]) Q E s:=by
 rcases g with⟨c,k,e,f,l⟩|⟨c,k,b,e,f,n,l⟩
 .subst f;obtain⟨z,hd,q,rel,dd⟩:=rD I.hok e;refine call_meetsIn PySem.F.slot_dict_get dd.typeIs PySem.F.entry_dict_get (PySem.F.args_dict_get_3 _ _ _) (meets_dict_get_default (z0k X.prog X.w) a (rC i) hd r) ⟨_,dd.mapOf,h _ _ (I.tok _) ?_⟩;rw[l];exact(rel.val k).getD rd
 .subst f;cases i;obtain⟨z,hd,p,rel,dd⟩:=z9p I.hok e;refine call_meetsIn PySem.F.slot_dict_get dd.typeIs PySem.F.entry_dict_get (PySem.F.args_dict_get_3 _ _ _) (meetsH_dict_get_default (qu (z0k X.prog X.w)) a b hd r) ⟨j0 hu,k,p,uE I.hok n,dd,h _ _ (I.tok _) ?_⟩;rw[l];exact(rel.val k).getD rd
end
end L2
namespace HT
open PySem PyProof.Rows
section
variable {prog:cg}{w:World}{A:d8}{E:Value->aq->Prop}{s:aq}
theorem cat_tup (ht:IsTup s.heap t c.toArray)(hb:IsTup s.heap b ws.toArray)(l:c≠[])
  (p:ws=[]->Q (.ref t) s) (q:ws≠[]->Q (.ref s.heap.objs.size) {s with heap:=s.heap.push {cls:=.type "tuple",data:=.seq (c++ws).toArray}})
  (d:c.length+ws.length<=bh):wpAny (model prog w) A (i3 .Add (.ref t) (.ref b)) Q E s:=by
 obtain⟨⟨cls,dd,data,sl⟩,ho,r,n,hd⟩:=id ht;obtain⟨⟨m,f,i,g⟩,a,j,o,k⟩:=id hb;subst r hd j k;have e:c.toArray++ws.toArray=(c++ws).toArray:=by simp
 by_cases h:ws=[]
 .exact se ⟨_,ho,rfl⟩ ⟨_,a,rfl⟩ qw ux PySem.F.slot_tuple_add PySem.F.entry_tuple_add (PySem.F.args_tuple_add_2 _ _) (tuple_addW1 t b c.toArray ws.toArray n o dd f sl g (by simpa using l) (by simp[h])) ⟨ho,a,p h⟩
 .refine se ⟨_,ho,rfl⟩ ⟨_,a,rfl⟩ qw ux PySem.F.slot_tuple_add PySem.F.entry_tuple_add (PySem.F.args_tuple_add_2 _ _)
   (tuple_addW2 t b c.toArray ws.toArray n o dd f sl g (by simpa using l) (by simpa using h) (cb▸d)) ⟨ho,a,?_⟩
  rw[e];exact q h
def aU (n d:Nat):Option Int->Nat
 |none=>d
 |some v=>if v<0 then(v+(n:Int)).toNat else min v.toNat n
theorem rE (n d:Nat)(hd:d<=n)(o:Option Int):aU n d o<=n:=by
 cases o with
 |none=>exact hd
 |some v=>
  show(if v<0 then(v+n).toNat else min v.toNat n)<=n;by_cases a:v<0
  .rw[ya a];omega
  .rw[yb a];exact Nat.min_le_right _ _
theorem Hf (v:Int)(n d:Nat):(if v<0 then max (v+(n:Int)) 0 else min v (n:Int))=((aU n d (Z9 v):Nat):Int):=by
 show(if v<0 then max (v+n) 0 else min v n)=(((if v<0 then(v+n).toNat else min v.toNat n):Nat):Int);by_cases a:v<0
 .simp only[ya a];omega
 .simp only[yb a];omega
theorem Nz (a b:Option Int)(n:Nat):qc a b 1 (n:Int)=(((aU n 0 a:Nat):Int),((aU n n b:Nat):Int)):=by
 refine Prod.ext ?_ ?_
 .cases a with
  |none=>rfl
  |some v=>exact Hf v n 0
 .cases b with
  |none=>rfl
  |some v=>exact Hf v n n
theorem NA (i j:Nat):jh (i:Int) (j:Int) 1=j-i:=by unfold jh;split<;>omega
theorem Hg (p:vp v o)(h:Q o s):wpAny (model prog w) A (Builtin.Slice.slicePartIndex v) Q E s:=by
 cases p with
 |none=>exact slicePart_none h
 |int i t=>exact slicePart_int h
theorem z39 {a:Option Int}{n:Nat}(hs:s.heap.IsSliceOf sl e f .none)(pl:vp e a)(pu:vp f d)
  (h:Q (((aU n 0 a:Nat):Int),1,aU n n d-aU n 0 a) s):wpAny (model prog w) A (Builtin.Slice.sliceApplied (.ref sl) (pure n)) Q E s:=by
 obtain⟨os,b,g,c⟩:=id hs;refine ac (ac (eh b c rfl (ac (eh b c rfl (ac (eh b c rfl (ah ?_)))))));refine ac (slicePart_none ?_);refine ac (Hg pl (ac (Hg pu (ac (ah ?_)))));show wpAny _ _ (match qc a d 1 n with|(a,d)=>pure (a,(1:Int),jh a d 1)) _ _ s;rw[Nz a d n];show wpAny _ _ (pure (((aU n 0 a:Nat):Int),1,jh ((aU n 0 a:Nat):Int) ((aU n n d:Nat):Int) 1)) _ _ s;rw[NA];exact ah h
theorem NB (a:Array Value)(i k:Nat):((cc k).filterMap λ(m:Nat)=>a[((i:Int)+(m:Int)*1).toNat]?).toArray=((a.toList.drop i).take k).toArray:=by
 have e:(λ(m:Nat)=>a[((i:Int)+m*1).toNat]?)=λm=>a[i+m]?:=by
  funext m
  have:((i:Int)+m*1).toNat=i+m:=by omega
  rw[this]
 rw[e];have:=pick_run a i k;rw[List.filterMap_map]at this;have b:((λx=>a[x]?)∘λx=>i+x)=λm=>a[i+m]?:=rfl;rw[b]at this;rw[this]
theorem getItem_tuple_cut {b:Option Int}(ht:IsTup s.heap t items)(hs:s.heap.IsSliceOf sl i j .none)(pl:vp i b)(pu:vp j c)
  (k:¬(aU items.size 0 b=0/\aU items.size items.size c=items.size))
  (h:Q (.ref s.heap.objs.size) {s with heap:=s.heap.push {cls:=.type "tuple",data:=.seq ((items.toList.drop (aU items.size 0 b)).take (aU items.size items.size c-aU items.size 0 b)).toArray}})
  (g:items.size<=bh):wpAny (model prog w) A (wg (.ref t) (.ref sl)) Q E s:=by
 have a:sizeOk (.seq ((items.toList.drop (aU items.size 0 b)).take (aU items.size items.size c-aU items.size 0 b)).toArray):=by show((items.toList.drop (aU items.size 0 b)).take (aU items.size items.size c-aU items.size 0 b)).toArray.size<=bh;rw[cb,g9,qx,e9];omega
 obtain⟨os,d,e,l⟩:=id hs;unfold wg
 try with_reducible refine dz ?_
 first|refine ac (ah ?_)|skip
 refine ac (wpAny_sequenceKey ht.typeIs (by decide) ?_);refine ac (ef ht.typeIs PyProof.Rows.slot_tuple_getitem (d3 PyProof.Rows.slot_tuple_getitem ht.typeIs entry_tuple_getitem ?_ (args_tuple_getitem _ _)));show wpAny _ _ (Builtin.Tuple.tupleItemsOf (.ref t)>>=_) _ _ s;refine ac (tupleItemsOf_ ht ?_);refine ac (kz ⟨os,d,e⟩ ?_);refine ac (z39 hs pl pu ?_);have f:¬((((aU items.size 0 b:Nat):Int)==0&&(1:Int)==1&&(aU items.size items.size c-aU items.size 0 b)==items.size)=Z7):=by intro q;rw[cq,cq]at q;have m:=eq_of_beq q.1.1;have n:=eq_of_beq q.2;exact k ⟨by omega,by omega⟩
 show wpAny _ _ (if(((aU items.size 0 b:Nat):Int)==0&&1==1&&(aU items.size items.size c-aU items.size 0 b)==items.size)=Z7 then _ else _) _ _ s;rw[yb f,NB]
 first
  |exact ac (gr (ah ⟨_,rfl,ah h⟩) a)
  |exact ac (gr (ac (ah (ah ⟨_,rfl,ah h⟩))) a)
  |exact ac (ac (gr (ah (ah ⟨_,rfl,ah h⟩)) a))
  |exact ac (ac (gr (ah ⟨_,rfl,ah h⟩) a))
end
end HT
namespace L2
open PySem PySem.Spec PyProof.Rows
abbrev TO:=St->Hp->(Option Int->Hp->Prop)->Prop
def PO (X:Cx)(e:Option Expr)(t:TO):Prop:=∀(pins:List (Addr×Obj)) (s:aq) (σ:St) (H:Hp) (Q:Option Int->Hp->Prop),Inv X pins σ H s->t σ H Q->wpAny (model X.prog X.w) X.A (evalPart e X.env) (λu s'=>∃o H',Inv X pins σ H' s'/\vp u o/\Q o H') X.xe s
def NC:TO:=λ_ H Q=>Q Z8 H
def ND (t:TE):TO:=λσ H Q=>t σ H λx H1=>∃i,x=.int i/\Q (Z9 i) H1
theorem intsAre_of:∀{a:List Value},Vals (ns.map V.int) a->ug a ns:=by
 induction ns with
 |nil=>intro a r;rw[List.map_nil]at r;cases r;exact .nil
 |cons n ns b=>
  intro a r;cases r with
  |cons c d=>obtain⟨t,rfl⟩:=c;exact .cons n t (b d)
section
variable {X:Cx}{e:Expr}{te:TE}{lo hi:Option Expr}{tl th:TO}{pos p2:Pos}
theorem NF:PO X Z8 NC:=by intro a s b H Q I h;exact ah ⟨Z8,H,I,.none,h⟩
theorem NG (h:PE X e te):PO X (Z9 e) (ND te):=by intro a s b H Q I c;refine aI (h a s b H _ I c) λu k ⟨x,d,f,g,j⟩=>?_;obtain⟨i,rfl,q⟩:=j;obtain⟨t,rfl⟩:=g;exact⟨Z9 i,d,f,.int i t,q⟩
def mF (X:Cx)(r:V->Option Int->Option Int->Hp->VK->Prop):Prop:=∀(pins:List (Addr×Obj)) (s:aq) (σ:St) (H:Hp) (x:V) (v vl vu:Value) (lo hi:Option Int) (sl:Addr) (Q:VK),Inv X pins σ H s->RelV x v->s.heap.IsSliceOf sl vl vu .none->vp vl lo->vp vu hi->r x lo hi H Q->∃T id,xv (.type T) "__getitem__"=pure (Z9 (.builtin id))/\s.TypeIs v T/\wpAny (model X.prog X.w) X.A (wg v (.ref sl)) (EP X pins σ Q) X.xe s
theorem mF.or (h:mF X r)(f:mF X g):mF X (λx lo hi H Q=>r x lo hi H Q\/g x lo hi H Q):=by
 intro a s b H x v c d lo hi sl Q I e hs pl pu q;rcases q with q|q
 .exact h a s b H x v c d lo hi sl Q I e hs pl pu q
 .exact f a s b H x v c d lo hi sl Q I e hs pl pu q
def NH (r:V->Option Int->Option Int->Hp->VK->Prop)(te:TE)(tl th:TO):TE:=λσ H Q=>te σ H λx H1=>tl σ H1 λl H2=>th σ H2 λu H3=>r x l u H3 Q
theorem NI (hr:mF X r)(j:PE X e te)(hl:PO X lo tl)(hu:PO X hi th):PE X (.Subscript e (.Slice lo hi Z8 p2) pos) (NH r te tl th):=by intro a s c H Q I h;refine Subscript_ (aI (j a s c H _ I h) λv k ⟨x,m,n,o,p⟩=>?_);refine wpAny_Slice (aI (hl a k c m _ n p) λf t ⟨l,w,y,pl,z⟩=>aI (hu a t c w _ y z) λg d ⟨u,i,A,pu,B⟩=>?_);refine ah ?_;have C:Inv X a c i {d with heap:=d.heap.push {cls:=.type "slice",data:=.fields #[f,g,.none]}}:=A.kept λb F q=>af _ q;obtain⟨T,id,D,ht,E⟩:=hr a {d with heap:=d.heap.push {cls:=.type "slice",data:=.fields #[f,g,.none]}} c i x v f g l u d.heap.objs.size Q C o (Heap.IsSliceOf.new ..) pl pu B;exact tail_any ht D E (by with_unfolding_all rfl)
def nD (xs:List V)(lo hi:Option Int):List V:=(xs.drop (HT.aU xs.length 0 lo)).take (HT.aU xs.length xs.length hi-HT.aU xs.length 0 lo)
theorem Hh (a:List V)(lo hi:Option Int):(nD a lo hi).length<=a.length:=by unfold nD;rw[g9,qx];omega
def Ca (K:Z5):V->Option Int->Option Int->Hp->VK->Prop:=λx lo hi H Q=>∃a xs,x=.ref a/\bN K H a xs/\¬(HT.aU xs.length 0 lo=0/\HT.aU xs.length xs.length hi=xs.length)/\∀p,H p=Z8->Q (.ref p) (upd H p (.tup (nD xs lo hi)))
theorem NJ:mF X (Ca X.K):=by
 rintro f s j H x v k l lo hi sl Q I h hs pl pu ⟨a,d,rfl,hx,i,q⟩
 cases h;obtain⟨e,r,ht,g⟩:=I.tuple hx;have c:e.toArray.size=d.length:=cb▸r.length.symm;refine⟨"tuple",_,PyProof.Rows.slot_tuple_getitem.lookup,ht.typeIs,?_⟩;refine HT.getItem_tuple_cut ht hs pl pu (c▸i) ?_ (c▸g);rw[c];refine⟨.ref s.heap.objs.size,_,I.laid (λb m q=>af _ q) (ai _) ?_,rfl,q _ (I.hok.fresh (ai _))⟩;exact⟨bp (Hh d lo hi) g,_,(r.drop (HT.aU d.length 0 lo)).take (HT.aU d.length d.length hi-HT.aU d.length 0 lo),TupN.new _ _⟩
def Hi (K:Z5):R2:=λx y H Q=>∃a b xs ys,x=.ref a/\y=.ref b/\bN K H a xs/\bN K H b ys/\xs≠ []/\xs.length+ys.length<=bh/\(ys=[]->Q (.ref a) H)/\(ys≠[]->∀p,H p=Z8->Q (.ref p) (upd H p (.tup (xs++ys))))
theorem Vals.fU (r:Vals a b):b=[]↔a=[]:=by
 cases r with
 |nil=>simp
 |cons _ _=>simp
theorem NK:OpR X (i3 .Add) (Hi X.K):=by
 rintro e s n H x y v u Q I h i ⟨a,b,o,p,rfl,rfl,ha,hb,hx,f,j,k⟩
 cases h;cases i;obtain⟨l,d,m,_⟩:=I.tuple ha;obtain⟨g,c,p2,_⟩:=I.tuple hb;refine HT.cat_tup m p2 (λz=>hx (d.fU.mp z)) (λz=>⟨.ref a,H,I,rfl,j (c.fU.mp z)⟩) (λz=>?_) (by rw[<-d.length,<-c.length];exact f);refine⟨.ref s.heap.objs.size,_,I.laid (λb r q=>af _ q) (ai _) ?_,rfl,k (λw=>z (c.fU.mpr w)) _ (I.hok.fresh (ai _))⟩;exact⟨by rw[bq];exact f,_,d.append c,TupN.new _ _⟩
end
def iV (n:Nat)(i:Int):Option Nat:=if 0<=i then(if i<n then Z9 i.toNat else Z8)else if -(n:Int)<=i then Z9 (i+n).toNat else Z8
def cR {α:Type}(xs:List α)(i:Int):Option α:=(iV xs.length i).bind λj=>xs[j]?
theorem Hj (h:iV n i=Z9 j):seqIndex? i n=Z9 j/\j<n/\-(n:Int)<=i/\i<n:=by
 unfold iV at h;by_cases h0:0<=i
 .rw[ya h0]at h;by_cases a:i<n
  .rw[ya a]at h;have e:=yc h;exact⟨by rw[xn h0 a,e],by omega,by omega,a⟩
  .rw[yb a]at h;cases h
 .rw[yb h0]at h;by_cases a:-n<=i
  .rw[ya a]at h;have e:=yc h;exact⟨by rw[wj (by omega) a,e],by omega,a,by omega⟩
  .rw[yb a]at h;cases h
theorem Cb (h:cR a i=Z9 v):∃j,seqIndex? i a.length=Z9 j/\a[j]?=Z9 v/\j<a.length/\-(a.length:Int)<=i/\i<a.length:=by
 unfold cR at h;cases e:iV a.length i with
 |none=>rw[e]at h;cases h
 |some j=>rw[e]at h;obtain⟨b,c,d,f⟩:=Hj e;exact⟨j,b,h,c,d,f⟩
def Hk (b:Expr):Prop:=∀o i,subscripted b Z6 o i=operate [o,i] (wg o i)
def kN (X:Cx)(r:R2):Prop:=∀(value slice:Expr) (pins:List (Addr×Obj)) (s:aq) (σ:St) (H:Hp) (x y:V) (v u:Value) (Q:VK),Inv X pins σ H s->RelV x v->RelV y u->r x y H Q->subscripted slice Z6 v u=operate [v,u] (wg v u)->wpAny (model X.prog X.w) X.A (subscriptTail value slice v u) (EP X pins σ Q) X.xe s
def MtR (X:Cx)(id:String)(r:V->List V->Hp->VK->Prop):Prop:=∀(pins:List (Addr×Obj)) (s:aq) (σ:St) (H:Hp) (x:V) (xs:List V) (v:Value) (us:List Value) (Q:VK),Inv X pins σ H s->RelV x v->Vals xs us->r x xs H Q->wpAny (model X.prog X.w) X.A (call (.builtin id) (v::us)) (EP X pins σ Q) X.xe s
section
variable {X:Cx}{a b:Expr}{ta tb:TE}{pos:Pos}
theorem kN.or (h:kN X r)(g:kN X i):kN X (λx y H Q=>r x y H Q\/i x y H Q):=by
 intro a b c s d H x y v u Q I e f q hs;rcases q with q|q
 .exact h a b c s d H x y v u Q I e f q hs
 .exact g a b c s d H x y v u Q I e f q hs
theorem Cc (hr:kN X r)(ha:PE X a ta)(hb:PE X b tb)(hs:Hk b):PE X (.Subscript a b pos) (iJ r ta tb):=by intro c s d H Q I h;exact Subscript_ (binT ha hb I h λv u e x y f g i j q=>hr a b c e d f x y v u Q g i j q (hs _ _))
def wR (K:Z5):R2:=λx y H Q=>∃p xs i v,x=.ref p/\y=.int i/\SqL K H p xs/\cR xs i=Z9 v/\Q v H
def wU (K:Z5):R2:=λx y H Q=>∃p xs i v,x=.ref p/\y=.int i/\bN K H p xs/\cR xs i=Z9 v/\Q v H
def wV:R2:=λx y H Q=>∃z i c,x=.str z/\y=.int i/\z.length<=bh/\cR z.cps.toList i=Z9 c/\Q (.str ⟨#[c]⟩) H
theorem NL:kN X (wR X.K):=by
 intro d e a s m H x y v u Q I n o h hs;obtain⟨p,F,i,z,rfl,rfl,A,B,q⟩:=h;cases n;obtain⟨t,rfl⟩:=o;obtain⟨f,r,pl,G⟩:=I.list A;obtain⟨j,c,C,J,D,E⟩:=Cb B;obtain⟨w,l,g⟩:=r.get C;have hl:=r.length;have hn:=qW;have b:EP X a m Q w s:=⟨z,H,I,g,q⟩;by_cases h0:0<=i
 .have k:i.toNat=j:=by
   rw[xn h0 E]at c;exact yc c
  exact item_listR pl.isList h0 (by omega) (by rw[k];simpa using l) b hs
 .have k:(i+f.toArray.size).toNat=j:=by
   rw[wj (by omega) D]at c;rw[cb,<-hl];exact yc c
  exact si pl.isList.typeIs slot_list_getitem.lookup (wpAny_getItem_list_neg pl.isList (by omega) (by rw[cb]<;>omega) (by omega) (by rw[k];simpa using l) ⟨rfl,b⟩) hs
theorem NM:kN X (wU X.K):=by intro a b d s A H x y v u Q I e f h hs;obtain⟨p,B,i,z,rfl,rfl,g,k,q⟩:=h;cases e;obtain⟨t,rfl⟩:=f;obtain⟨l,r,pl,C⟩:=I.tuple g;obtain⟨j,m,n,D,E,F⟩:=Cb k;obtain⟨w,o,c⟩:=r.get n;have hn:=qW;exact si pl.typeIs slot_tuple_getitem.lookup (getItem_tuple pl (by omega) (by omega) (by rw[cb,<-r.length];exact m) (by simpa using o) ⟨rfl,⟨z,H,I,c,q⟩⟩) hs
theorem zX:kN X wV:=by
 intro a b d s o H x y v u Q I f g h hs;obtain⟨z,i,c,rfl,rfl,p,k,q⟩:=h;obtain⟨t,rfl⟩:=f;obtain⟨r,rfl⟩:=g;obtain⟨j,e,l,w,m,n⟩:=Cb k;have hl:z.cps.toList.length=z.length:=by simp[Str.length]
 rw[hl]at e m n;have hn:=qW;exact tail_any (xw s z t) slot_str_getitem.lookup (getItem_str (by rw[yg (by omega),yg (by omega),qm]) (by rw[e];simpa using l) ⟨.str ⟨#[c]⟩,H,I.tok _,⟨_,rfl⟩,q⟩) hs
def uF (K:Z5):R2:=λx y H Q=>wR K x y H Q\/wU K x y H Q\/wV x y H Q
theorem Hl:kN X (uF X.K):=NL.or (NM.or zX)
theorem NN (a:List Value)(n j:Nat)(u:Value):Obj.mapSeq (·.setIfInBounds j u) {cls:=.type "list",data:=.seq a.toArray n}={cls:=.type "list",data:=.seq (a.set j u).toArray n}:=by simp[Obj.mapSeq]
theorem Inv.lst {b:List (Addr×Obj)}{σ:St}{H:Hp}{s:aq}{p:Addr}{c:List V}(I:Inv X b σ H s)(h:H p=Z9 (.lst c)):
  ∃a n,Vals c a/\s.heap.get? p=Z9 {cls:=.type "list",data:=.seq a.toArray n}/\c.length<=bh:=by
 obtain⟨z,a,n,r,e⟩:=I.hok p _ h;exact⟨a,n,r,e,z⟩
theorem Inv.lstUpd {a:List Value}(I:Inv X c d H s)(h:H p=Z9 (.lst i))
  (ho:s.heap.get? p=Z9 {cls:=.type "list",data:=.seq a.toArray n}) (hf:f {cls:=.type "list",data:=.seq a.toArray n}={cls:=.type "list",data:=.seq eG.toArray n'}) (r:Vals ys eG) (g:ys.length<=bh) t:
  Inv X c d (upd H p (.lst ys)) {s with heap:=s.heap.update p f,toks:=t}:=by
 have e:(s.heap.update p f).get? p=Z9 {cls:=.type "list",data:=.seq eG.toArray n'}:=by rw[e8 f ho (by rw[hf]<;>rfl),hf]
 refine I.write (by rw[h];trivial) (.inl rfl) (λb u hb q=>(gu _ _ (Ne.symm hb)).trans q) ⟨_,e⟩ ?_;exact⟨g,eG,n',r,e⟩
def Cd:V->V->V->Hp->(Hp->Prop)->Prop:=λo i v H Q=>∃p xs k j,o=.ref p/\i=.int k/\H p=Z9 (.lst xs)/\iV xs.length k=Z9 j/\Q (upd H p (.lst (xs.set j v)))
theorem set_list:BW X Cd:=by
 rintro a s h H o i v ov z u Q I l m rv ⟨p,w,k,j,rfl,rfl,d,x,q⟩
 cases l;obtain⟨t,rfl⟩:=m;obtain⟨b,n,r,ho,y⟩:=I.lst d;obtain⟨c,A,e,f⟩:=Hj x;have hl:=r.length;have hn:=qW;have g:Inv X a h (upd H p (.lst (w.set j v))) {s with heap:=s.heap.update p (Obj.mapSeq (·.setIfInBounds j u))}:=I.lstUpd d ho (NN b n j u) (r.set rv j) (by rw[du];exact y) s.toks;by_cases h0:0<=k
 .have hk:k.toNat=j:=by
   rw[xn h0 f]at c;exact yc c
  exact W.ki_setAt ho h0 (by omega) (by rw[cb,<-hl];exact f) (hk▸⟨_,g,q⟩)
 .have hk:(k+b.toArray.size).toNat=j:=by
   rw[wj (by omega) e]at c;rw[cb,<-hl];exact yc c
  exact W.ki_setBack ho (by omega) (by rw[cb,<-hl];exact e) (by omega) (hk▸⟨_,g,q⟩)
theorem NO (a b:Option Int)(n:Nat):(l8 a b Z8 n).1=((HT.aU n 0 a:Nat):Int)/\(l8 a b Z8 n).2.1=((HT.aU n n b:Nat):Int)/\(l8 a b Z8 n).2.2=1:=by
 refine⟨?_,?_,rfl⟩
 .cases a with
  |none=>simp[l8,HT.aU]
  |some i=>
   simp only[l8,HT.aU,Option.getD_none,show 1>0 by decide,if_true];by_cases h:i<0
   .simp only[h,if_true]<;>omega
   .simp only[h,if_false]<;>omega
 .cases b with
  |none=>simp[l8,HT.aU]
  |some i=>
   simp only[l8,HT.aU,Option.getD_none,show 1>0 by decide,if_true];by_cases h:i<0
   .simp only[h,if_true]<;>omega
   .simp only[h,if_false]<;>omega
theorem NP (a:List Value)(b c:Option Int):slicePick a.toArray b c Z8=((a.drop (HT.aU a.length 0 b)).take (HT.aU a.length a.length c-HT.aU a.length 0 b)).toArray:=by obtain⟨d,e,f⟩:=NO b c a.toArray.size;unfold slicePick;rw[d,e,f];simp only[tz,pick_run,cb]<;>rfl
def wW (K:Z5):V->Option Int->Option Int->Hp->VK->Prop:=λx lo hi H Q=>∃a xs,x=.ref a/\SqL K H a xs/\∀p,H p=Z8->Q (.ref p) (upd H p (.lst (nD xs lo hi)))
theorem NQ:mF X (wW X.K):=by
 rintro f s k H x v l m e g sl Q I h hs pl pu ⟨a,c,rfl,hx,q⟩
 cases h;obtain⟨i,r,ht,j⟩:=I.list hx;have d:=r.length;refine⟨"list",_,slot_list_getitem.lookup,ht.isList.typeIs,?_⟩;refine wpAny_getItem_list_slice ht.isList hs pl pu .none (by simp) ?_ (by rw[cb]<;>omega);rw[NP,<-d];refine⟨.ref s.heap.objs.size,_,I.laid (λb n q=>af _ q) (ai _) ?_,rfl,q _ (I.hok.fresh (ai _))⟩;exact⟨bp (Hh c e g) j,_,0,(r.drop (HT.aU c.length 0 e)).take (HT.aU c.length c.length g-HT.aU c.length 0 e),ax _ rfl⟩
theorem NR:CallR X (.builtin "len") (λf H Q=>∃p b,f=[.ref p]/\(SqL X.K H p b\/bN X.K H p b)/\Q (.int b.length) H):=by
 rintro g s i H f j Q I r ⟨p,b,rfl,c,q⟩
 obtain⟨u,rfl,rfl⟩:=vals1 r;have hn:=qW;rcases c with c|c
 .obtain⟨d,e,pl,h⟩:=I.list c;have a:=e.length;exact Calls.call_len_list pl.isList (by simp<;>omega) ⟨.int b.length,H,I.tok _,⟨s.toks+1,by rw[cb,a]⟩,q⟩
 .obtain⟨d,e,pl,h⟩:=I.tuple c;have a:=e.length;exact len_tuple pl (by simp<;>omega) ⟨.int b.length,H,I.tok _,⟨s.toks+1,by rw[cb,a]⟩,q⟩
theorem NS:CallR X (.builtin "len") (λa H Q=>∃z,a=[.str z]/\z.length<=bh/\Q (.int z.length) H):=by
 rintro b s c H a d Q I r ⟨z,rfl,e,q⟩
 obtain⟨u,rfl,t,rfl⟩:=vals1 r;have hn:=qW;exact len_str (by omega) ⟨.int z.length,H,I.tok _,⟨_,rfl⟩,q⟩
theorem CallR.or (h:CallR X f r)(g:CallR X f i):CallR X f (λb H Q=>r b H Q\/i b H Q):=by
 intro a s c H b d Q I e q;rcases q with q|q
 .exact h a s c H b d Q I e q
 .exact g a s c H b d Q I e q
theorem NT:CallR X (.type "list") (λv H Q=>∃p d,v=[.ref p]/\(SqL X.K H p d\/bN X.K H p d)/\∀l,H l=Z8->Q (.ref l) (upd H l (.lst d))):=by
 rintro h s y H v z Q I r ⟨p,d,rfl,i,q⟩
 obtain⟨u,rfl,rfl⟩:=vals1 r
 have j:∀a,Vals d a->d.length<=bh->∀c f,(∀b x,s.heap.get? b=Z9 x->c.get? b=Z9 x)->
   c.get? s.heap.objs.size=Z9 {cls:=.type "list",dict:=Z8,data:=.seq a.toArray f,slots:=#[]}->EP X h y Q (.ref s.heap.objs.size) {s with heap:=c}:=λa g k c f kp e=>
  ⟨.ref s.heap.objs.size,_,I.laid kp (ai _) (show z1b X.prog X.w _ c _ (.lst d)from⟨k,a,f,g,e⟩),rfl,q _ (I.hok.fresh (ai _))⟩
 rcases i with i|i
 .obtain⟨a,g,pl,k⟩:=I.list i;have m:=g.length;obtain⟨o,ho,t,n,hd⟩:=pl.isList;exact call_list_seq p (.inl rfl) ho t hd (λc f kp e=>j a g k c f kp e) (by simp<;>omega)
 .obtain⟨a,g,pl,k⟩:=I.tuple i;have m:=g.length;obtain⟨o,ho,t,n,hd⟩:=pl;exact call_list_seq p (.inr rfl) ho t hd (λc f kp e=>j a g k c f kp e) (by simp<;>omega)
theorem NU:CallR X (.type "tuple") (λj H Q=>∃p d,j=[.ref p]/\((SqL X.K H p d/\∀l,H l=Z8->Q (.ref l) (upd H l (.tup d)))\/(bN X.K H p d/\Q (.ref p) H))):=by
 rintro a s k H j w Q I r ⟨p,d,rfl,h⟩
 obtain⟨u,rfl,rfl⟩:=vals1 r;rcases h with⟨g,q⟩|⟨g,q⟩
 .obtain⟨c,i,pl,m⟩:=I.list g;have n:=i.length;refine call_tuple_list pl.isList (λf kp=>?_) (by simp<;>omega);have t:Inv X a k H {s with heap:=f}:=I.kept kp;have v:Inv X a k (upd H f.objs.size (.tup d)) {s with heap:=f.push {cls:=.type "tuple",data:=.seq c.toArray}}:=t.laid (λb o e=>af _ e) (ai _) (⟨m,c,i,TupN.new _ _⟩);exact⟨.ref f.objs.size,_,v,rfl,q _ (t.hok.fresh (ai _))⟩
 .obtain⟨c,i,pl,m⟩:=I.tuple g;exact call_tuple_same pl ⟨.ref p,H,I,rfl,q⟩
def tyV (K:Z5)(T:String)(x:V)(H:Hp):Prop:=match x with
 |.str _=>T="str"
 |.int _=>T="int"
 |.ref p=>(T="list"/\∃xs,SqL K H p xs)\/(T="tuple"/\∃o,K.lookup p=Z9 o/\o.cls=.type "tuple"/\o.dict=Z8)\/(T="dict"/\((∃kvs,H p=Z9 (.dK kvs))\/∃kvs,H p=Z9 (.dT kvs)))\/(T="set"/\∃S n,H p=Z9 (.set S n))
 |_=>False
theorem zrc (I:Inv X f l H s)(r:RelV x v)(ty:tyV X.K T x H):
  s.TypeIs v T/\∀a,v=.ref a->∃g,s.heap.get? a=Z9 g/\g.dict=none:=by
 cases x with
 |str z=>obtain⟨t,rfl⟩:=r;cases ty;exact⟨xw s z t,λ_ e=>nomatch e⟩
 |int i=>obtain⟨t,rfl⟩:=r;cases ty;exact⟨xx s i t,λ_ e=>nomatch e⟩
 |ref p=>
  cases r;rcases ty with⟨rfl,m,h⟩|⟨rfl,o,hk,j,hd⟩|⟨rfl,hk⟩|⟨rfl,S,n,hk⟩
  .obtain⟨k,_,pl,_⟩:=I.list h;refine⟨pl.isList.typeIs,λa e=>?_⟩;cases e;obtain⟨o,n,e,c,hd,_⟩:=pl;exact⟨o,e,hd⟩
  .refine⟨⟨o,I.dS p o hk,j⟩,λa e=>?_⟩;cases e;exact⟨o,I.dS _ o hk,hd⟩
  .have z:∃o,s.heap.get? p=Z9 o/\o.ExactDict:=by
    rcases hk with⟨b,hk⟩|⟨b,hk⟩
    .obtain⟨_,_,_,_,o,_,_,e,ex,_⟩:=I.hok p _ hk;exact⟨o,e,ex⟩
    .obtain⟨_,_,_,_,o,_,_,e,ex,_⟩:=I.hok p _ hk;exact⟨o,e,ex⟩
   obtain⟨o,e,ex⟩:=z;refine⟨⟨o,e,ex.1⟩,λa d=>?_⟩;cases d;exact⟨o,e,ex.2.1⟩
  .obtain⟨o,_,_,_,e,ex,_⟩:=I.hok p _ hk;refine⟨⟨o,e,ex.1⟩,λa d=>?_⟩;cases d;exact⟨o,e,ex.2.1⟩
 |_=>exact False.elim ty
def wY (K:Z5)(T:String)(r:V->List V->Hp->VK->Prop)(to:TE)(t:TA):TE:=λσ H Q=>to σ H λx H1=>tyV K T x H1/\t σ H1 λxs H2=>r x xs H2 Q
variable {o e:Expr}{es:List Expr}{to:TE}{t:TA}{name:Str}{apos cpos:Pos}{T id:String}{r:V->List V->Hp->VK->Prop}
theorem zgu (m:PlainAttrs T)(slot:Slot T name id)(g:typeOf (.builtin id)=pure (.type "method_descriptor"))(hm:MtR X id r)(ho:PE X o to)(ha:PA X (e::es) t)
  (c:ql o name X.env (eval o X.env)=eval o X.env:=by rfl)
  (f:((ow cpos (fq (e::es) X.env)).all (λx=> !x.1)&&(backToKw cpos (keywordEach [] X.env)).all (λx=>x.1.isSome)
   &&decide ((e::es).length+([]:List wc).length+(if([]:List wc).isEmpty then 0 else 1)<30))=true:=by rfl)
  (d:(apos.endLine==cpos.line)=true:=by rfl) (hs:fq (e::es) X.env=(Z6,eval e X.env)::fq es X.env:=by rfl) (b:(ow cpos (fq es X.env)).any (·.1)=false:=by rfl):
  PE X (.Call (.Attribute o name apos) (e::es) [] cpos) (wY X.K T r to t):=by
 intro a s i H Q I h;refine wpAny_Call_method_late c f d rfl (aI (ho a s i H _ I h) λv n ⟨x,p,j,k,ty,q⟩=>?_);obtain⟨u,w⟩:=zrc j k ty;refine⟨T,id,m,slot,g,u,w,?_⟩;have l:=ha cpos a n i p _ j q;rw[hs]at l ⊢;refine Calls.callWith_builtin (by show(Z6||(ow cpos (fq es X.env)).any (·.1))=Z6;rw[b]<;>rfl) (oh ?_);exact aI l λy z ⟨A,B,C,D,E⟩=>hm a z i B x A v y Q C k D E
end
def Hm (X:Cx)(id:String)(r:V->List V->Hp->VK->Prop):Prop:=∀(pins:List (Addr×Obj)) (s:aq) (σ:St) (H:Hp) (x:V) (xs:List V) (v:Value) (us:List Value) (Q:VK),Inv X pins σ H s->RelV x v->Vals xs us->r x xs H Q->wpAny (model X.prog X.w) X.A (call (.builtin id) (v::us)) (EP X pins σ Q) X.xe s
theorem Vals.one (h:Vals [x] a):∃u,a=[u]/\RelV x u:=by
 cases h with
 |cons r h=>cases h;exact⟨_,rfl,r⟩
theorem Vals.rep (h:Vals a b):∀k,Vals (bo k a).flatten (bo k b).flatten
 |0=>.nil
 |k+1=>by exact Vals.append h (Vals.rep h k)
theorem foldl_rep (a:List Value):∀k b,
  xy (λc d=>c++d) b.toArray (bo k a.toArray)=(b++(bo k a).flatten).toArray
 |0,b=>by simp
 |k+1,b=>by
  have e:b.toArray++a.toArray=(b++a).toArray:=by simp
  have f:(b++a)++(bo k a).flatten=b++(bo (k+1) a).flatten:=by rw[pd,List.flatten_cons,gw]
  rw[<-f,<-foldl_rep a k (b++a),<-e,pd,List.foldl_cons]
section
variable {X:Cx}{pins:List (Addr×Obj)}{σ:St}{H:Hp}{s:aq}{l b:Addr}{xs ys zs:List V}
theorem Inv.lset {a:List Value}(I:Inv X pins σ H s)(b:H l=Z9 (.lst xs))
  (e:s.heap.get? l=Z9 {cls:=.type "list",data:=.seq a.toArray n}) (hf:f a.toArray=eG.toArray) (c:Vals ys eG) (d:ys.length<=bh):
  Inv X pins σ (upd H l (.lst ys)) {s with heap:=s.heap.update l (Obj.mapSeq f),toks:=t'}:=by
 have q:=PySem.IsL.update e f;rw[hf]at q;refine I.write (b▸trivial) (.inl rfl) (λg u hb hu=>(gu s.heap (Obj.mapSeq f) (Ne.symm hb)).trans hu) ⟨_,q⟩ ?_;exact⟨d,eG,_,c,q⟩
theorem Inv.lnew (I:Inv X pins σ H s)(b:Vals ys a)(c:ys.length<=bh):
  Inv X pins σ (upd H s.heap.objs.size (.lst ys)) {s with heap:=s.heap.push {cls:=.type "list",data:=.seq a.toArray},toks:=t'}:=
 I.laid (λ_ _ q=>af _ q) (ai _) ⟨c,a,0,b,ax _ rfl⟩
theorem Inv.fresh (I:Inv X pins σ H s):H s.heap.objs.size=none:=I.hok.fresh (ai _)
theorem Inv.jI (I:Inv X pins σ H s)(b:H l=Z9 (.lst xs)):xs.length<=bh/\∃a n,Vals xs a/\xs.length=a.length/\s.heap.get? l=Z9 {cls:=.type "list",data:=.seq a.toArray n}:=by obtain⟨z,a,n,r,e⟩:=I.hok l _ b;exact⟨z,a,n,r,r.length,e⟩
theorem Hn (h:n<=bh):lr n=false:=yg (by omega)
end
section
variable {X:Cx}
def zY:V->List V->Hp->VK->Prop:=λx vs H Q=>∃l xs y,x=.ref l/\vs=[y]/\H l=Z9 (.lst xs)/\xs.length<bh/\Q .non (upd H l (.lst (xs++[y])))
theorem Cf:Hm X "list.append" zY:=by
 rintro b s g H x h v i Q I d rv ⟨l,j,y,rfl,rfl,c,k,q⟩
 cases d;obtain⟨u,rfl,f⟩:=rv.one;obtain⟨z,a,n,r,hl,e⟩:=I.jI c;refine sj F.slot_list_append ⟨_,e,rfl⟩ F.entry_list_append (F.args_list_append_2 _ _) (PySem.list_append l a.toArray n u (by grind)) ⟨e,?_⟩;refine⟨.non,_,I.lset c e (by simp) (r.append (.cons f .nil)) ?_,rfl,q⟩;rw[bq,List.length_singleton];omega
def zZ:V->List V->Hp->VK->Prop:=λx vs H Q=>∃l b xs zs,x=.ref l/\vs=[.ref b]/\H l=Z9 (.lst xs)/\H b=Z9 (.lst zs)/\xs.length+zs.length<=bh/\Q .non (upd H l (.lst (xs++zs)))
theorem NV:Hm X "list.extend" zZ:=by
 rintro g s t H x w v y Q I i rv ⟨l,b,A,B,rfl,rfl,h,j,C,q⟩
 cases i;obtain⟨u,rfl,rfl⟩:=rv.one;obtain⟨z,c,n,r,hl,e⟩:=I.jI h;obtain⟨D,a,k,m,o,p⟩:=I.jI j;have f:c.toArray.size+a.toArray.size<=bh:=by rw[cb,cb];omega
 have d:¬(!c.toArray.isEmpty&&lr (c.toArray.size+a.toArray.size))=true:=by rw[Hn f,Bool.and_false];exact gp
 refine sj F.slot_list_extend ⟨_,e,rfl⟩ F.entry_list_extend (F.args_list_extend_2 _ _) (AutoSeq1.list_extend_list_list_0 l c.toArray n b a.toArray k d (by grind) (by omega)) ⟨e,p,?_⟩;refine⟨.non,_,I.lset h e (by simp) (r.append m) ?_,rfl,q⟩;rw[bq];omega
def wZ:R2:=λx y H Q=>∃l b xs zs,x=.ref l/\y=.ref b/\H l=Z9 (.lst xs)/\H b=Z9 (.lst zs)/\xs.length+zs.length<=bh/\∀p,H p=Z8->Q (.ref p) (upd H p (.lst (xs++zs)))
theorem NW:OpR X (i3 .Add) wZ:=by
 rintro d s p H x y v u Q I f g ⟨l,b,t,w,rfl,rfl,h,i,A,q⟩
 cases f;cases g;obtain⟨z,c,n,r,hl,e⟩:=I.jI h;obtain⟨B,a,C,j,k,m⟩:=I.jI i;refine PySem.P.add_list e m ?_ (by grind);have o:c.toArray++a.toArray=(c++a).toArray:=by simp
 rw[o];exact⟨.ref _,_,I.lnew (r.append j) (by grind),rfl,q _ I.fresh⟩
def Cg:R2:=λx y H Q=>∃l k xs,x=.ref l/\y=.int k/\H l=Z9 (.lst xs)/\ -(2 ^ 63)<=k/\k<2 ^ 63/\xs.length*k.toNat<=bh/\∀p,H p=Z8->Q (.ref p) (upd H p (.lst (bo k.toNat xs).flatten))
theorem len_rep {b:Type}(a:List b)(k:Nat):(bo k a).flatten.length=k*a.length:=by simp
theorem NY:OpR X (i3 .Mult) Cg:=by
 rintro o s J H x y v u Q I w A ⟨l,k,K,rfl,rfl,B,C,D,p,q⟩
 cases w;obtain⟨t,rfl⟩:=A;obtain⟨z,b,n,r,hl,e⟩:=I.jI B;have d:b.toArray.size*k.toNat<=bh:=by rw[cb,<-hl];exact p
 have f:¬b.toArray.size*k.toNat>(2 ^ 63-1)/8:=by
  have:bh<=(2 ^ 63-1)/8:=by decide
  omega
 have g:¬(!Builtin.List.listFitsIndex k)=true:=by rw[fitsIndex_both C D];exact gp
 have c:¬lr (b.toArray.size*k.toNat)=true:=by rw[Hn d];exact gp
 have h:xy (λi j=>i++j) #[] (bo (if b.toArray.isEmpty=Z7 then 0 else k.toNat) b.toArray)=(bo k.toNat b).flatten.toArray:=by
  have E:∀m,xy (λi j=>i++j) #[] (bo m b.toArray)=(bo m b).flatten.toArray:=λm=>by have:=foldl_rep b m [];exact this
  rw[E];cases b with
  |nil=>simp
  |cons a L=>rw[yb (by simp)]
 refine wpAny_binaryOp_repeat_ref (by decide) ⟨_,e,rfl⟩ (λG=>xx G k t) noFill_list_mul F.fills_int_mul F.slot_int_rmul repeat_list F.slot_int_index.lookup
  (sj F.slot_int_rmul (xx s k t) F.entry_int_rmul (F.args_int_rmul_2 _ _) (int___rmul___int_list k t l b.toArray n)
   ⟨e,rfl,⟨_,e,rfl⟩,sj F.slot_list_mul ⟨_,e,rfl⟩ F.entry_list_mul (F.args_list_mul_2 _ _) (AutoListH.list___mul___list_int_3 l b.toArray n k t g f c) ⟨e,?_⟩⟩)
 rw[h];exact⟨.ref _,_,I.lnew (r.rep k.toNat) (by rw[len_rep,wp];exact p),rfl,q _ I.fresh⟩
end
end L2
namespace Att
open PySem PySem.W PySem.Calls PyProof.Rows
theorem NZ:∀ns c,WellAll P h c (ns.map WData.int)->ug c ns:=by
 intro ns
 induction ns with
 |nil=>intro c w;cases w;exact .nil
 |cons n ns d=>
  intro c w;cases w with
  |cons a b=>cases a;exact .cons _ _ (d _ b)
theorem ze2 {l:OpenLaw}(hn:l.most=Z9 n)
  (b:l.row.toRowW.claim.pre args=Z7) (i:WellAll P h c args):
  ∃a k ns,c=[ZS a]/\args=[WData.list (ns.map WData.int)]/\h.get? a=Z9 {cls:=.type "list",data:=.seq k.toArray}/\ug k ns/\ns.length<=n:=by
 have m:l.pre.holds [] {args:=args}=true:=(pre_splitW b).2;obtain⟨d,r,rfl,o,p⟩:=hasAllW_cons ((pre_splitW b).1);obtain rfl:=hasAllW_nil p;obtain⟨v,rfl,s⟩:=hasW_list o;obtain⟨ns,rfl⟩:=items_int s
 have e:ns.length<=n:=by
  have g:(WTm.not (.lt (.lit (.int n)) (.len (.arg 0)))).holds [] {args:=[.list (ns.map .int)]}=true:=by have g:=(holds_andW m).1;rw[hn]at g;exact g
  have j:=condW_of g (w_not (w_lt w_lit (w_len_list (w_arg rfl))));refine jv λq=>?_
  first
   |(rw[yf q']at j;exact absurd j dc)
   |(simp at j;omega)
 cases i with
 |cons t u=>
  cases u;cases t with
  |list ho f=>exact⟨_,_,ns,rfl,rfl,ho,NZ ns _ f,e⟩
theorem N0 (l:OpenLaw)(args:List WData):l.row.toRowW.claim.post args (.bool Z7) args=true:=
 postW_of
  (show WShape.has [] (.bool Z7) .bool=Z7 by first|rfl|decide|simp[WShape.has,WShape.arms,WShape.armsAll])
  (show(WTm.eq .res (.lit (.bool Z7))).value [] {args:=args,res:=Z9 (.bool Z7),after:=args}=Z9 (.bool (Z7==Z7))from w_eq_bool (w_res rfl) w_lit) rfl
theorem attach_call {l:OpenLaw}
  (hn:l.most=Z9 n) (p:d.params.defaults=[])
  (call:∀w s₀ b mg s h o t cd c a g ns,
   Ground q loose [] B w s₀ mg s b.heap->C w b.heap->
   b.heap.get? h=Z9 o->o.data=.func (docDef d.name d.params d.body d.scope t cd c)->b.heap.CodeRec cd d.name->mg d.name=Z9 (.ref h)->
   b.heap.get? a=Z9 {cls:=.type "list",data:=.seq g.toArray}->ug g ns->ns.length<=n->b.gens=#[]->
   ku (model l.prog w) wq (.call (.ref h) ⟨[.ref a],[]⟩) (λr m=>r=.ok (.ret (.bool Z7))/\OldK b.heap m.heap/\m.os=b.os/\ph m.gens) b):
  WalkO q loose B C l.row.toRowW d [] (λf g=>PySem.call f g):=by
 intro w s₀ b mg s G Y h o t cd c D kV ho hd u y v E args z M i A F x H;obtain rfl:D=.none:=Dflts.none y p;obtain rfl:kV=.none:=Dflts.noKw y;obtain⟨a,g,ns,rfl,rfl,j,e,k⟩:=ze2 hn i x;refine enter_call (ky (call w s₀ b mg s h o t cd c a g ns G Y ho (fd_plain hd) u v j e k E) λr m I=>?_);obtain⟨rfl,J,K,L⟩:=I;exact⟨.inl ⟨.bool Z7,.bool Z7,[],rfl,λ_=>rfl,.bool Z7,N0 l _,λ_=>⟨List.Pairwise.nil,λ_ hm=>(nomatch hm)⟩⟩,J,K,L⟩
end Att
namespace L2
open PySem PySem.Spec PyProof.Rows
theorem w':∀{a:List Value} {ns:List Int},ug a ns->Vals (ns.map V.int) a
 |_,_,.nil=>.nil
 |_,_,.cons n t h=>.cons ⟨t,rfl⟩ (w' h)
def Only (H:Hp):Prop:=∀b,H b=Z8\/∃o xs,H b=Z9 (.fN o (.lst xs))
theorem zfe {K:Z5}
  (I:K.In c.heap) (l:c.heap.Ns ce mg) (hb:c.heap.Ns xr J) (B:∀x:Str,x≠"__name__"->J x=db x) (p:c.heap.NoLimit) (Q:c.gens=#[])
  (ha:c.heap.get? a=Z9 {cls:=.type "list",data:=.seq vs.toArray}) (L:ug vs ns) (hl:ns.length<=bh) (hr:Room k wq)
  (F:∀base,K.In base->base.Ns ce mg->FnOk P w K mg base CX k fa fd [x] sp) (j:∀s u,uf s fd ⟨[u],[]⟩ [(x,u)])
  (C:∀H,Only H->SqL K H a (ns.map V.int)->sp [.ref a] H (λv _=>v=.bl Z7) λ_ _ _=>False)
  (D:∀H e f,CX [] H c (λ_ _ _=>False) e f->False):
  ku (model P w) wq (.call (.ref fa) ⟨[.ref a],[]⟩) (λr f=>r=.ok (.ret (.bool Z7))/\OldK c.heap f.heap/\f.os=c.os/\ph f.gens) c:=by
 have rv:=w' L
 have i:∀H,Only H->SqL K H a (ns.map V.int)->HOk P w H c.heap->(∀b,H b≠Z8->b=a)->(H a≠Z8->K.lookup a=Z8)->
   ku (model P w) wq (.call (.ref fa) ⟨[.ref a],[]⟩) (λr f=>r=.ok (.ret (.bool Z7))/\OldK c.heap f.heap/\f.os=c.os/\ph f.gens) c:=by
  intro H M R hok N S;have rG:∀{b:Addr} {o:Obj},c.heap.get? b=Z9 o->H b=Z8->(jE c.heap H).get? b=Z9 o:=λe n=>MF e n
  have E:∀{b:Addr} {o:Obj} {es:Array DictEntry} {ep:Nat},c.heap.get? b=Z9 o->o.data=.dict es ep->H b=none:=λ{b o es ep} e d=>by
   cases q:H b with
   |none=>rfl
   |some u=>have G:=N b (by rw[q];simp);subst G;rw[ha]at e;cases e;cases d
  have g:∀{b:Addr} {m:Str->Option Value},c.heap.Ns b m->(jE c.heap H).Ns b m:=λ{b m} ⟨o,es,ep,e,d,r⟩=>⟨o,es,ep,rG e (E e d),d,r⟩
  have t:=λb o e=>rG (I b o e) (by
   cases q:H b with
   |none=>rfl
   |some u=>have G:=N b (by rw[q];simp);subst G;rw[S (by rw[q];simp)]at e;cases e)
  refine ky ((F _ t (g l)).run wq [] c H ⟨[.ref a],[]⟩ [.ref a] [.ref a] _ _ hr ⟨rfl,⟨t,g l,⟨J,g hb,B⟩,let⟨mc,h1,h2⟩:=p;⟨mc,g h1,h2⟩⟩,λb o e=>MG e,Nat.le_of_eq (ME _ _),trivial,λb hb=>absurd (show b∈([]:List Addr)from hb) (by simp),hok,.of_eq Q⟩ (j c (.ref a)) (.cons rfl .nil) (C H M R)) λr f h=>?_;cases r with
  |error e=>exact(D H e f h).elim
  |ok T=>
   cases T with
   |next=>exact False.elim h
   |brk=>exact False.elim h
   |cont=>exact False.elim h
   |ret u=>
    obtain⟨v,H',os,bare,un,y,r',rfl⟩:=h;obtain rfl:u=Value.bool true:=r';refine⟨rfl,OldK.of_keep λb o e=>?_,os,bare⟩;cases q:H b with
    |none=>exact un.keep b o e q (by intro z;exact absurd (show b∈([]:List Addr)from z) (by simp)) (by simp)
    |some u=>
     rcases M b with z|⟨ob,xs,z⟩
     .rw[q]at z;cases z
     .have z2:=un.cA b ob _ z;obtain⟨O,_⟩:=hok b _ z;obtain⟨e2,_⟩:=y b _ z2;rw[e]at O;cases O;exact e2
 cases hk:K.lookup a with
 |some o=>have e:=I a o hk;rw[ha]at e;cases e;refine i (λ_=>Z8) (λ_=>.inl rfl) (.inr ⟨_,vs.toArray,_,hk,rfl,rfl,rfl,by rw[cb,L.length];exact hl,by simpa using rv⟩) (λb u z=>by have A:Z8=Z9 u:=z;cases A) (λb z=>absurd rfl z) λz=>absurd rfl z
 |none=>
  refine i (λb=>if b=a then Z9 (.fN {cls:=.type "list",data:=.seq vs.toArray} (.lst (ns.map V.int)))else Z8) (λb=>?_) (.inl (.inr ⟨{cls:=.type "list",data:=.seq vs.toArray},ya rfl⟩)) (λb u z=>?_) (λb z=>?_) λ_=>hk
  .by_cases hb:b=a
   .exact .inr ⟨_,_,ya hb⟩
   .exact .inl (yb hb)
  .by_cases hb:b=a
   .have A:=(ya hb).symm.trans z;cases A;subst hb;exact⟨ha,by rw[ae];exact hl,vs,_,rv,ha⟩
   .have A:=(yb hb).symm.trans z;cases A
  .by_cases hb:b=a
   .exact hb
   .exact absurd (yb hb) z
theorem walk_of {l:W.OpenLaw}{K:iz->Z5}{C:World->CXT}{D:World->Sp}
  (hn:l.most=Z9 n) (r:n<=bh) (t:d.params.defaults=[]) (hr:Room k wq)
  (J:∀w h,L w h->(K w.params).In h)
  (F:∀w mg p h,(K w.params).In h->h.Ns ce mg->mg d.name=Z9 (.ref p)->∃fd,(∀s u,uf s fd ⟨[u],[]⟩ [(x,u)])/\∀base,(K w.params).In base->base.Ns ce mg->FnOk l.prog w (K w.params) mg base (C w) k p fd [x] (D w))
  (y:∀w H a (ns:List Int),ns.length<=n->Only H->SqL (K w.params) H a (ns.map V.int)->D w [.ref a] H (λv _=>v=.bl Z7) λ_ _ _=>False)
  (z:∀w H s e A,C w [] H s (λ_ _ _=>False) e A->False):
  W.WalkO q loose S L l.row.toRowW d [] (λf E=>PySem.call f E):=by
 refine Att.attach_call hn t λw s₀ j mg U p o X cd M a E ns G Y ho hd N B m i c O=>?_;have I:=J w _ Y;obtain⟨fd,hb,P⟩:=F w mg p _ I G.T.g B;exact zfe I G.T.g G.T.b G.T.builtins G.T.nolimit O m i (bp c r) hr P hb (λH Q R=>y w H a ns c Q R) λH e A=>z w H j e A
def z11 (s:Stmt):Arguments:=match s with
 |.FunctionDef _ a _ _ _ _ _ _ _ _=>a
 |_=>{posonlyargs:=[],args:=[],vararg:=Z8,kwonlyargs:=[],kw_defaults:=[],kwarg:=Z8,defaults:=[]}
def z0j (s:Stmt):List Stmt:=match s with
 |.FunctionDef _ _ b _ _ _ _ _ _ _=>b
 |_=>[]
def z08 (s:Stmt):Scope:=match s with
 |.FunctionDef _ _ _ _ _ _ sc _ _ _=>sc
 |_=>{kind:=.function,names:=[],isGenerator:=Z6,isCoroutine:=Z6}
abbrev mG:CXT:=λ_ _ _ _ _ _=>False
abbrev E0:XK:=λ_ _ _=>False
theorem N1:z6d mG X E0:=λ_ _ _ _ _ _ _ h=>h.elim
structure Fun (K:Z5)(x qual:Str)(st:Stmt)(f:Addr)(fd:i4):Prop where
 ex:∃(oc:Value) (od:Option Addr) (kV doc pm:Value) (an:Option Addr) (nG ct:Value) (Ho:Array (Option Value)),fd=W.fnOf x qual (z11 st) (z0j st) (z08 st) .none kV doc pm an nG ct/\K.lookup f=Z9 ⟨oc,od,.func fd,Ho⟩/\W.codeIn K nG qual=Z7
 kp:Z3 K (.ref f)=Z7
section
variable {P:cg}{w:World}{K:Z5}{mg:Str->Option Value}{base:Heap}
theorem Fun.ok {st:Stmt}(F:Fun K x qual st f fd)(S:FnScope N ps (z08 st))(len:∀vs H Q E,sp vs H Q E->vs.length=ps.length)
  (xA:∀nG A outer s H vs Q E,Room k (A.deeper (tt qual (z08 st) s.heap.objs.size f nG))->sp vs H Q E->∃t,PSs (gK mG P w K mg base N qual (z08 st) f nG A outer s H E).wG (z0j st) t/\t {nx:=λ_ H'=>Q .non H',rt:=Q} (start N vs) H):FnOk P w K mg base mG (k+1) f fd ps sp:=by
 obtain⟨oc,od,kV,doc,pm,an,nG,ct,Ho,rfl,lk,Ci⟩:=F.ex;refine zmv lk Ci S len λA outer s H vs Q E hr N2=>?_;obtain⟨t,h,q⟩:=xA nG A outer s H vs Q E hr N2;exact⟨t,h.wG,q⟩
theorem Fun.binds {st:Stmt}(F:Fun K x c st f fd)
  (h:∀kV a d an b ct e,e.length=ps.length->xu (W.fnOf x c (z11 st) (z0j st) (z08 st) .none kV a d an b ct) ⟨e,[]⟩=pure (ps.zip e)):Binds K fd ps []:=by
 obtain⟨oc,od,kV,a,d,an,b,ct,g,rfl,j,i⟩:=F.ex;exact .all (h kV a d an b ct)
theorem Cj {st:Stmt}{kV:Value}(l:K.lookup f=Z9 ⟨oc,od,.func (W.fnOf x a (z11 st) (z0j st) (z08 st) .none kV d g an b ct),e⟩) (c:W.codeIn K b a=Z7) (k:Z3 K (.ref f)=Z7):Fun K x a st f (W.fnOf x a (z11 st) (z0j st) (z08 st) .none kV d g an b ct):=⟨⟨oc,od,kV,d,g,an,b,ct,e,rfl,l,c⟩,k⟩
end
theorem jJ {B:Prop}(h:B):if Z6=Z7 then A else B:=h
theorem jK {B:Prop}(h:A):if Z7=Z7 then A else B:=h
def Same (H H':Hp):Prop:=∀b o,H b=Z9 o->H' b=Z9 o
theorem Same.refl (H:Hp):Same H H:=λ_ _ h=>h
theorem Same.trans (a:Same H d)(b:Same d e):Same H e:=λc o h=>b c o (a c o h)
section
variable {X:Cx}
theorem N3:CallR X (.builtin "len") (λc H Q=>∃a b,c=[V.ref a]/\H a=Z9 (.dK b)/\Q (.int b.length) H):=by
 rintro d s f H c g Q I r ⟨a,b,rfl,ha,q⟩
 obtain⟨u,rfl,rfl⟩:=vals1 r;exact Nw I (.inl ha) λt h e=>⟨.int b.length,H,e,⟨t,rfl⟩,q⟩
end
end L2
set_option maxHeartbeats 5000000
namespace L2
open PySem PySem.Spec PyProof.Rows
def eI (env:Env):List (Str×jb)->List (Str×Addr)->List (Str×Addr)
 | [],cs=>cs
 |(n,k)::r,cs=>eI env r (if(k==.free)=Z7 then(n,(env.cells.lookup n).getD 0)::cs else cs)
theorem Hq:∀l (a:List (Str×Addr)),(∃c,a.lookup x=Z9 c)->∃c,(eI env l a).lookup x=Z9 c
 | [],a,h=>h
 |(n,k)::r,a,h=>by
  refine Hq r _ ?_;split
  .by_cases e:(x==n)=Z7
   .exact⟨_,by rw[d5,e]⟩
   .obtain⟨c,b⟩:=h;exact⟨c,by rw[d5,qg.mpr e];exact b⟩
  .exact h
theorem Ck:∀(l:List (Str×jb)) cs,l.lookup x=Z9 .free->∃c,(eI env l cs).lookup x=Z9 c
 | [],cs,h=>by simp at h
 |(n,k)::r,cs,h=>by
  rw[d5]at h;cases e:(x==n)with
  |true=>rw[e]at h;have a:=yc h;subst a;exact Hq r _ ⟨_,by rw[ya (by rfl),d5,e]⟩
  |false=>rw[e]at h;exact Ck r _ h
theorem zcw:∀l cs,(∀y∈l,y.2=.free->∃c,env.cells.lookup y.1=Z9 c)->(∀x c,cs.lookup x=Z9 c->env.cells.lookup x=Z9 c)->
  ∀x c,(eI env l cs).lookup x=Z9 c->env.cells.lookup x=Z9 c
 | [],cs,_,h=>h
 |(n,k)::r,cs,i,h=>by
  refine zcw r _ (λy j=>i y (ay _ j)) λx c a=>?_;by_cases f:(k==NameKind.free)=Z7
  .rw[ya f,d5]at a;cases e:(x==n)with
   |true=>
    rw[e]at a;have g:x=n:=by simpa using e
    obtain⟨d,hd⟩:=i (n,k) bb (by simpa using f);have b:=hd;rw[b]at a;rw[g,b];exact a
   |false=>rw[e]at a;exact h x c a
  .rw[yb f]at a;exact h x c a
theorem Hr (h:∀y∈scope.names,y.2=.free->∃c,env.cells.lookup y.1=Z9 c):closureFor scope env=pure (eI env scope.names []):=by
 have go:∀l cs,(∀y∈l,y.2=.free->∃c,env.cells.lookup y.1=Z9 c)->
   (forIn l cs λx r=>if(x.2==NameKind.free)=Z7 then(do let a <-cellOf env x.1;pure (ForInStep.yield ((x.1,a)::r)):Sem _)else pure (ForInStep.yield r))=(pure (eI env l cs):Sem _):=by
  intro l
  induction l with
  |nil=>intro cs _;rfl
  |cons y r i=>
   intro cs f;obtain⟨n,k⟩:=y;rw[List.forIn_cons];unfold eI;by_cases b:(k==NameKind.free)=Z7
   .obtain⟨c,hc⟩:=f (n,k) bb (by simpa using b);have d:=hc;have e:cellOf env n=pure c:=by unfold cellOf;rw[d]
    rw[ya b,ya b];rw[e,d];exact i ((n,c)::cs) λy g=>f y (ay _ g)
   .rw[yb b,yb b];exact i cs λy g=>f y (ay _ g)
 have:=go scope.names [] h
 first
  |exact this
  |(show(forIn scope.names [] _>>=λr=>pure r)=_;rw[show(forIn scope.names ([]:List (Str×Addr)) _:Sem _)=_ from this];rfl)
theorem z9t (hc:∀y∈scope.names,y.2≠.cell):
  (relabel scope env).names.lookup x=Z9 .cell\/(relabel scope env).names.lookup x=Z9 .free->scope.names.lookup x=Z9 .free:=by
 have go:∀(l:List (Str×jb)),(∀y∈l,y.2≠ .cell)->∀k,(k=NameKind.cell\/k=NameKind.free)->
   (l.map λ(n,k)=>if(k==.free&&env.scope.kind==.function&&env.kindOf n==Z9 .cell)then(n,NameKind.cell)else(n,k)).lookup x=Z9 k->l.lookup x=Z9 .free:=by
  intro l
  induction l with
  |nil=>intro _ k _ h;simp at h
  |cons y r g=>
   intro d k a h;obtain⟨n,q⟩:=y;rw[br]at h;rw[d5];by_cases c:(q==NameKind.free&&env.scope.kind==.function&&env.kindOf n==Z9 .cell)=Z7
   .have b:q=.free:=by
     simp at c;simpa using c.1.1
    dsimp only at h
    rw[ya c,d5]at h;cases e:(x==n)with
    |true=>rw[b]
    |false=>rw[e]at h;exact g (λy f=>d y (ay _ f)) k a h
   .dsimp only at h
    rw[yb c,d5]at h;cases e:(x==n)with
    |true=>
     rw[e]at h;have b:=yc h;rcases a with a|a
     .exact absurd (b.trans a) (d (n,q) bb)
     .show Z9 q=Z9 .free;rw[b,a]
    |false=>rw[e]at h;exact g (λy f=>d y (ay _ f)) k a h
 rintro(h|h)
 .exact go scope.names hc .cell (.inl rfl) h
 .exact go scope.names hc .free (.inr rfl) h
def blk (X:Cx)(scope:Scope)(N':List Str)(C:Addr)(fp:List Addr)(s:aq)(H:Hp):Cx:={X with N:=N',s₀:=s,gE:=H,env:=compEnvC scope (eI X.env scope.names []) C X.env,outer:=X.stack,stack:=X.stack,ex:=fp,fn:=λ_=>Z6,xe:=λ_ _=>False,fx:=[]}
structure BlkScope (X:Cx)(scope:Scope)(N':List Str)(nt:Nat)(js:List Nat):Prop where
 kind:scope.kind=.function
 lA:∀y∈scope.names,y.2≠.cell
 names:∀y∈scope.names,y.2=.local->scope.names.lookup y.1=Z9 .local
 frees:∀y∈scope.names,y.2=.free->X.env.scope.names.lookup y.1=Z9 .cell\/X.env.scope.names.lookup y.1=Z9 .free
 nd:N'.Nodup
 len:N'.length=nt+js.length
 pl:∀(i j:Nat),js[i]?=Z9 j->N'[nt+i]?=X.N[j]?/\∃x,X.N[j]?=Z9 x/\scope.names.lookup x=Z9 .free
def nH (NX:List Str)(Hs scope:Scope)(N':List Str)(nt:Nat)(js:List Nat):Bool:=
 (scope.kind==.function)&&scope.names.all (λy=>!(y.2==.cell))&&scope.names.all (λy=>!(y.2==.local)||(scope.names.lookup y.1==Z9 .local))&&
 scope.names.all (λy=>!(y.2==.free)||(Hs.names.lookup y.1==Z9 .cell)||(Hs.names.lookup y.1==Z9 .free))&&decide N'.Nodup&&(N'.length==nt+js.length)&&
 (N'.drop nt==js.map λj=>NX.getD j "")&&js.all (λj=>decide (j<NX.length)&&(scope.names.lookup (NX.getD j "")==Z9 .free))
theorem Ht (hN:X.N=f)(hs:X.env.scope=c)(h:nH f c scope k l m=Z7):BlkScope X scope k l m:=by
 unfold nH at h;simp only[cq,cx,decide_eq_true_eq,beq_iff_eq,oy,wu,beq_eq_false_iff_ne]at h;obtain⟨⟨⟨⟨⟨⟨⟨n,o⟩,p⟩,q⟩,r⟩,s⟩,t⟩,u⟩:=h;refine⟨n,o,λy d e=>(p y d).resolve_left (λz=>z e),λy d e=>?_,r,s,λi j g=>?_⟩
 .rw[hs];rcases q y d with(z|z)|z
  .exact absurd e z
  .exact .inl z
  .exact .inr z
 .obtain⟨a,b⟩:=u j (bt g);have e:X.N[j]?=Z9 (f.getD j ""):=by rw[hN,az,am a];rfl
  refine⟨?_,_,e,b⟩;rw[e,<-vq,t,ar,g];rfl
def eJ (nt:Nat)(js:List Nat)(σ:St):St:=bo nt Z8++js.map λj=>σ.getD j Z8
section
variable {X:Cx}{scope:Scope}{N':List Str}{nt:Nat}{js:List Nat}
theorem zle (B:BlkScope X scope Q G R)(I:Inv X D J H s)
  (w:∀b∈fp,FpOk X D H b) (S:∀b∈fp,∃o,s.heap.get? b=Z9 o)
  (k:∀b o,s.heap.get? b=Z9 o->O.get? b=Z9 o) (hn:O.Ns s.heap.objs.size m1):
  Inv (blk X scope Q s.heap.objs.size fp s H) D (eJ G R J) H {s with heap:=O,toks:=t1}:=by
 have g:∀x c,(eI X.env scope.names []).lookup x=Z9 c->X.env.cells.lookup x=Z9 c:=zcw _ _ (λy P hf=>I.ok.has y.1 (B.frees y P hf)) (λx c h=>by simp at h);have lt:∀b o,s.heap.get? b=Z9 o->b≠s.heap.objs.size:=λb o e=>cu (bj e);refine⟨⟨I.ok.mod,B.kind,I.ok.glob,I.ok.blt,ai _,λx y c O h2=>I.ok.inj x y c (g x c O) (g y c h2),λx T=>Ck _ _ (z9t B.lA T),λx c h=>(by cases h),I.ok.hd,I.ok.frames,.inl rfl,λb E=>?_,I.bs,bp I.ok.iG I.sz,λb o e E=>?_,λb E T=>?_,I.stack,I.fR,λ_ _ z=>by cases z⟩,rfl,I.bare,Un.kept k,⟨m1,hn,λi x v e1 A e3=>?_⟩,λx c e=>?_,I.hok.fresh (ai _),λx c e=>I.freeC x c (g x c e),λp hp=>?_,I.hok.kept k,?_,λ_ _ z=>by cases z⟩
 .obtain⟨o,K⟩:=S b E;exact⟨lt b o K,λx c h=>(w b E).2.2.2.2.1 x c (g x c h)⟩
 .rcases(w b E).2.2.2.1 with z|z
  .exact I.ok.fO b o e z
  .exact absurd (cr (bj e) (bp I.ok.iG z)) (dk _)
 .rcases au.mp (I.fQ b T)with z|z
  .exact(w b E).2.1 z
  .exact(w b E).2.2.1 z
 .--a name with a value:one of Xy z0
  have hi:G<=i:=by refine jv λh=>?_;unfold eJ at A;rw[jg (dg▸h),fh,ya h]at A;cases A
  unfold eJ at A;rw[kj (dg▸hi),dg,ar]at A;cases U:R[i-G]? with
  |none=>rw[U]at A;cases A
  |some j=>
   rw[U]at A;have C:J.getD j Z8=Z9 v:=yc A;obtain⟨L,y,P,f⟩:=B.pl (i-G) j U;rw[ui hi]at L;have V:x=y:=by have M:Q[i]?=Z9 x:=e1;rw[L,P]at M;exact(yc M).symm
   subst V
   have W:J[j]?=Z9 (Z9 v):=by
    rw[az]at C;cases q:J[j]? with
    |none=>rw[q]at C;cases C
    |some z=>rw[q]at C;simp_all
   have N:=B.frees (x,.free) (PySem.mem_of_lookup f) rfl;obtain⟨m,Xz,hl⟩:=I.loc;obtain⟨u,r,l⟩:=hl j x v P W (N.elim (λz=>.inr (.inl z)) (λz=>.inr (.inr z)));refine⟨u,r,?_⟩;rcases l with⟨Y,_⟩|⟨Y,c,hc,F⟩
   .rcases N with z|z
    .have t:X.env.scope.names.lookup x=Z9 .local:=Y;rw[z]at t;cases t
    .have t:X.env.scope.names.lookup x=Z9 .local:=Y;rw[z]at t;cases t
   .obtain⟨d,hd⟩:=Ck scope.names [] f;have Z:d=c:=by have:=g x d hd;rw[hc]at this;cases this;rfl
    subst Z;refine .inr ⟨?_,d,hd,?_⟩
    .rcases e3 with z|z|z
     .exfalso
      have:∀(l:List (Str×jb)),l.lookup x=Z9 .free->(l.map λ(n,k)=>if(k==.free&&X.env.scope.kind==.function&&X.env.kindOf n==Z9 .cell)then(n,NameKind.cell)else(n,k)).lookup x≠Z9 .local:=by
       intro l
       induction l with
       |nil=>intro h;simp at h
       |cons y r ih=>
        intro h;obtain⟨n,q⟩:=y;rw[d5]at h;rw[br]
        dsimp only
        cases e:(x==n)with
        |true=>
         rw[e]at h;have hq:=yc h;subst hq;split
         .rw[d5,e];intro z;cases z
         .rw[d5,e];intro z;cases z
        |false=>
         rw[e]at h;split
         .rw[d5,e];exact ih h
         .rw[d5,e];exact ih h
      exact this _ f z
     .exact .inl z
     .exact .inr z
    .obtain⟨o,K,nI⟩:=F;exact⟨o,k _ _ K,nI⟩
 .obtain⟨v,o,K,hd⟩:=I.cell x c (g x c e);exact⟨v,o,k _ _ K,hd⟩
 .obtain⟨q1,q2,q3,q4,q5⟩:=I.pin p hp;refine⟨k _ _ q1,q2,lt _ _ q1,λz=>?_,q5⟩;rcases au.mp (I.fQ p.1 z)with z|z
  .exact q3 z
  .exact q4 z
 .show(eJ G R J).length=Q.length;unfold eJ;rw[bq,dg,ae,B.len]
end
section
variable (M:Model)(A:d8)(env:Env)
abbrev fF:Value->aq->Prop:=λ_ _=>False
def N4 (acc:Value)(Z:aq->Prop)(x:Value):aq->Prop:=wpAny M A (call (.builtin "list.append") [acc,x]) (λ_=>Z) fF
def Cm (elt:Expr)(acc:Value)(Z:aq->Prop)(ok:Bool)(s:aq):Prop:=if ok=Z7 then wpAny M A (eval elt env) (N4 M A acc Z) fF s else Z s
def N5 (ifs:List Expr)(elt:Expr)(acc:Value)(Z:aq->Prop):aq->Prop:=wpAny M A (forIn ifs Z7 λc r=>if r=Z7 then(xl c env (eval c env)>>=λok=>pure (ForInStep.yield ok))else pure (ForInStep.yield r)) (Cm M A env elt acc Z) fF
def Cn (tg:Expr)(ifs:List Expr)(elt:Expr)(acc:Value)(Z:aq->Prop)(v:Value):aq->Prop:=wpAny M A (vi tg env v) (λ_=>N5 M A env ifs elt acc Z) fF
def Co (tg:Expr)(ifs:List Expr)(elt:Expr)(it acc:Value)(End Z:aq->Prop)(r:Option Value)(s:aq):Prop:=match r with
 |some v=>wpAny M A (j2 tg it v) (λ_=>Cn M A env tg ifs elt acc Z v) fF s
 |none=>End s
end
theorem zjg (I:Nat->aq->Prop)
  (one:∀k t,I k t->wpAny (model P w) A (mj it) (Co (model P w) A env g a b it c (R (.ok .next)) λi=>∃m,m<k/\I m i) fF t) n (h:I n s):
  ku (model P w) A (.compLoop (.ListComp b [⟨g,d,a,0⟩] scope pos) 0 it c env) R s:=by
 apply codeAny_loop rfl I _ n h;intro k t j;apply wpAny_noted;apply wpAny_noRaise;apply ac;apply n8;apply ac;refine aI (one k t j) ?_
 rintro(_|v) r e
 .exact ah e
 apply ac;refine aI e λ_ u l=>?_;apply ac;refine aI l λ_ y o=>?_;apply ac;refine aI o ?_
 rintro(_|_) z f
 .exact ah ⟨rfl,f⟩
 apply ac;apply ac;refine aI f λx B p=>?_;apply ac;exact aI p λ_ C q=>ah (ah ⟨rfl,q⟩)
theorem Un.but (u:Un fs ex H f h g)(i:h.get? C=Z8)(c:ci C g j):Un fs ex H f h j:=by
 have ne:∀b o,h.get? b=Z9 o->b≠C:=λb o e z=>by rw[z,i]at e;cases e
 exact⟨λb o e n d a=>c.extBut b o (ne b o e) (u.keep b o e n d a),λb o e n d a=>let⟨sl,q⟩:=u.slot b o e n d a;⟨sl,c.extBut b _ (ne b o e) q⟩,u.free,λb o e a=>let⟨o',q⟩:=u.there b o e a;⟨o',c.extBut b _ (ne b o e) q⟩,u.cG,u.cA,u.cH⟩
theorem HOk.but (ok:HOk P w H h)(d:H C=Z8)(f:ci C h g):HOk P w H g:=λa o e=>by
 refine(ok a o e).stay (λb u c q=>f.extBut b u (λz=>?_) q) (λ_ q=>q) λ_ _ q=>q;rcases c with c|c
 .rw[z]at c;rw[<-c,d]at e;cases e
 .rw[z,d]at c;cases c
def nJ (X:Cx)(ifs:List Expr)(t:TT):Prop:=∀(pins:List (Addr×Obj)) (s:aq) (σ:St) (H:Hp) (Q:Bool->Hp->Prop),Inv X pins σ H s->t σ H Q->wpAny (model X.prog X.w) X.A (forIn ifs Z7 λc r=>if r=Z7 then do let ok <-xl c X.env (eval c X.env);pure (ForInStep.yield ok)else pure (ForInStep.yield r)) (TP X pins σ Q) X.xe s
def xB:TT:=λ_ H Q=>Q Z7 H
theorem Hu:nJ X [] xB:=λ_ _ _ H _ I h=>wpAny_tests_nil ⟨H,I,h⟩
theorem Hv (h:PT X c t):nJ X [c] t:=λa s b H Q I q=>wpAny_tests_one (h a s b H Q I q)
def fV (a b:St):Prop:=a.length=b.length/\∀(i:Nat) v,a[i]?=Z9 (Z9 v)->b[i]?=Z9 (Z9 v)
def xE (wi:TI)(g:TG)(tc:TT)(te:TE)(em:St->St):TE:=λσ H Q=>wi σ H λJ H1=>∀l,H1 l=Z8->∃P:Nat->Nat->List V->Hp->Prop,(∃m,P 0 m [] (upd H1 l (.lst [])))/\∀i m acc H2,P i m acc H2->(J.stop i H2/\Q (.ref l) H2)\/(J.go i H2/\acc.length<bh/\∃N:List V->Hp->Prop,(∀lB H',N lB H'->∃m',m'<m/\P (i+1) m' lB H')/\∀x H3,J.gG i H2 x H3->g x (em σ) H3 λjL H4=>fV (em σ) jL/\tc jL H4 λb H5=>if b=Z7 then te jL H5 λy H6=>H6 l=Z9 (.lst acc)/\N (acc++[y]) (upd H6 l (.lst (acc++[y])))else N acc H5)
section
variable {X:Cx}{scope:Scope}{N':List Str}{nt:Nat}{js:List Nat}{tg iter elt:Expr}{ifs:List Expr}{wi:TI}{g:TG}{tc:TT}{te:TE}{pos:Pos}
theorem z4h {Q:VK}{RR:Value->Addr->x9->aq->Prop}(hc:X.calm=Z7)(B:BlkScope X scope S nt js)
  (hg:∀C D s H,PG (blk X scope S C D s H) tg g) (ht:∀C D s H,nJ (blk X scope S C D s H) ifs tc) (he:∀C D s H,PE (blk X scope S C D s H) elt te)
  (h2:tY X a σ tg (λJ H1=>∀l,H1 l=Z8->∃P:Nat->Nat->List V->Hp->Prop,(∃m,P 0 m [] (upd H1 l (.lst [])))/\∀i m f K,P i m f K->(J.stop i K/\Q (.ref l) K)\/(J.go i K/\f.length<bh/\∃N:List V->Hp->Prop,(∀F t,N F t->∃m',m'<m/\P (i+1) m' F t)/\∀x H3,J.gG i K x H3->g x (eJ nt js σ) H3 λjL H4=>fV (eJ nt js σ) jL/\tc jL H4 λb H5=>
  if b=Z7 then te jL H5 λy H6=>H6 l=Z9 (.lst f)/\N (f++[y]) (upd H6 l (.lst (f++[y])))else N f H5)) wK j)
  (N6:∀l C t U,(∃m,U.heap.Ns C m)->t C=Z8->C≠X.env.locals->C∉X.fs->(∀x c,X.env.cells.lookup x=Z9 c->c≠C)->X.s₀.heap.objs.size<=C->(∀p∈X.pn++a,p.1≠C)->(∀h',ci C U.heap h'->Inv X a σ t {U with heap:=h'})->Q (.ref l) t->RR (.ref l) C (.ok .next) U):
  wpAny (model X.prog X.w) X.A (newList []) (λf I=>wpAny (model X.prog X.w) X.A (newFunctionEnv scope X.env.globals (eI X.env scope.names []) [] X.env.qual Z8 .none (Z9 X.env)) (λxF Cp=>ku (model X.prog X.w) X.A (.compStart (.ListComp elt [⟨tg,iter,ifs,0⟩] scope pos) 0 wK f {xF with scope:=relabel scope X.env}) (RR f xF.locals) Cp) E I) E j:=by
 obtain⟨it,D,tn,J,K,rfl,I2,T,xG,f2,q⟩:=h2;refine gr (wpAny_newFunctionEnv B.lA (by intro y hy;simp at hy) (λh₁ L M=>?_) B.kind);have xH:∀b∈D,∃o,j.heap.get? b=Z9 o:=λb h=>let⟨o,e,_⟩:=T.obj 0 _ xG b h;⟨o,e⟩;have hl:=I2.hok.fresh (ai _);have W:=I2.lnew (t':=j.toks) .nil (cy _);obtain⟨P,⟨m0,p0⟩,turn⟩:=q _ hl;generalize N7:j.heap.push {cls:=.type "list",dict:=Z8,data:=.seq ([]:List Value).toArray}=G at L M W ⊢;generalize N8:j.heap.objs.size=l at hl W p0 turn ⊢;have O:∀b o,j.heap.get? b=Z9 o->G.get? b=Z9 o:=λb o e=>N7▸af _ e;have k:=λb o e=>M.extBut b o (cu (bj e)) (af _ e);have f3:∀b∈D,FpOk X a (upd K l (.lst [])) b:=λb h=>by obtain⟨o,e⟩:=xH b h;exact⟨by rw[aB (N8▸cu (bj e))];exact(f2 b h).1,(f2 b h).2⟩
 have J0:=zle (t1:=j.toks+([]:List (Str×Value)).length) B W f3 (λb h=>let⟨o,e⟩:=xH b h;⟨o,O b o e⟩) k L;have Cq:∀{t:Hp},(∀b∈D,t b=Z8)->∀b∈D,FpOk (blk X scope S G.objs.size D {j with heap:=G,toks:=j.toks} (upd K l (.lst []))) a t b:=λhn b h=>⟨hn b h,(J0.ok.gA b h).1,J0.ok.fP b h,.inl h,(J0.ok.gA b h).2,(f2 b h).2.2.2.2.2⟩;have out:∀{t:Hp} {U:aq},Inv (blk X scope S G.objs.size D {j with heap:=G,toks:=j.toks} (upd K l (.lst []))) a (eJ nt js σ) t U->∀h',ci G.objs.size U.heap h'->Inv X a σ t {U with heap:=h'}:=λ{t U} Jn h' sb=>by exact W.call' Jn.os (Un.but Jn.base (jk (ai _)) sb) (Jn.hok.but Jn.free sb) Jn.bare λb h=>⟨(f3 b h).2.2.2.1,(f3 b h).2.1,(f3 b h).2.2.2.2.1,(f3 b h).2.2.2.2.2⟩
 have nC:∀x c,X.env.cells.lookup x=Z9 c->c≠G.objs.size:=λx c e z=>by obtain⟨v,q⟩:=W.cell x c e;exact absurd q.lt (z▸dk _)
 have loop:∀I,I={j with heap:=h₁,toks:=j.toks+([]:List (Str×Value)).length}->
   ku (model X.prog X.w) X.A (.compLoop (.ListComp elt [⟨tg,iter,ifs,0⟩] scope pos) 0 (.ref it) (.ref l) (compEnvC scope (eI X.env scope.names []) G.objs.size X.env)) (RR (.ref l) G.objs.size) I:=by
  rintro I rfl
  refine zjg (λn s'=>∃i f t,Inv (blk X scope S G.objs.size D {j with heap:=G,toks:=j.toks} (upd K l (.lst []))) a (eJ nt js σ) t s'/\tn i s'.heap/\(∀b∈D,t b=Z8)/\P i n f t) ?_ m0 ⟨0,[],_,J0,T.keep _ _ _ xG λb _ o e=>k b o (O b o e),λb h=>(f3 b h).1,p0⟩
  rintro n s3 ⟨i,f,H3,Jn,Hw,Hx,w3⟩
  rcases turn i n f H3 w3 with⟨stop,qn⟩|⟨go,N9,N,hN,step⟩
  .refine aI (T.done (blk X scope S G.objs.size D {j with heap:=G,toks:=j.toks} (upd K l (.lst []))) rfl rfl rfl hc i a s3 _ H3 (λ_ _=>False) Jn (Cq Hx) Hw stop) λr s4 ⟨hr,I4⟩=>?_;subst hr;obtain⟨m,hn,_⟩:=id I4.loc;exact N6 l G.objs.size H3 s4 ⟨m,hn⟩ I4.free (kt (W.lt)) (W.wB (ai _)) nC W.sz (λp hp=>cu (bj (W.pin p hp).1)) (out I4) qn
  .refine aI (T.item (blk X scope S G.objs.size D {j with heap:=G,toks:=j.toks} (upd K l (.lst []))) rfl rfl rfl hc i a s3 _ H3 (λ_ _=>False) Jn (Cq Hx) Hw go) λr s4 ⟨u,hr,h4⟩=>?_;subst hr;refine aI h4 λ_ s5 ⟨x,H5,I5,r5,y5,Cr,Cu⟩=>aI (hg _ _ _ _ _ s5 _ H5 x u _ (I5.pinned (Cq Cu) (T.obj _ _ Cr)) r5 (step x H5 y5)) λ_ s6 ⟨σ6,H6,I6,kp,q6⟩=>aI (ht _ _ _ _ _ s6 σ6 H6 _ I6 q6) λb s7 ⟨H7,I7,q7⟩=>?_
   have R:∀{s7:aq} {H7:Hp} {F:List V},Inv (blk X scope S G.objs.size D {j with heap:=G,toks:=j.toks} (upd K l (.lst []))) (a++z6v D s5.heap) σ6 H7 s7->N F H7->
     ∃m,m<n/\∃i f t,Inv (blk X scope S G.objs.size D {j with heap:=G,toks:=j.toks} (upd K l (.lst []))) a (eJ nt js σ) t s7/\tn i s7.heap/\(∀b∈D,t b=Z8)/\P i m f t:=λ{s7 H7 F} I7 w7=>by
    obtain⟨n',hm,w7⟩:=hN _ _ w7;refine⟨n',hm,i+1,F,H7,(I7.bO).weak kp.1 kp.2,T.keep _ _ _ Cr λb h o e=>(I7.pin (b,o) (bg _ (bg _ (uA h e)))).1,λb h=>?_,w7⟩;obtain⟨o,e,d⟩:=T.obj _ _ Cr b h;exact(I7.pin (b,o) (bg _ (bg _ (uA h e)))).2.1
   cases b with
   |false=>exact R I7 q7
   |true=>exact aI (he _ _ _ _ _ s7 σ6 H7 _ I7 q7) λy' s8 ⟨y,H8,I8,r8,Oa,w8⟩=>aI (Cf _ s8 σ6 H8 (.ref l) [y] (.ref l) [y'] (λ_ H9=>N (f++[y]) H9) I8 rfl (.cons r8 .nil) ⟨l,f,y,rfl,rfl,Oa,N9,w8⟩) λ_ s9 ⟨v9,H9,I9,r9,w9⟩=>R I9 w9
 exact codeAny_compStart_list (loop _ rfl) (T.self _ 0 _ _ _ (T.keep _ _ _ xG λb _ o e=>k b o (O b o e)) (loop _ rfl))
theorem z9g (hc:X.calm=Z7)(B:BlkScope X scope d k n)(o:PI X j a wi)
  (p:∀C b s H,PG (blk X scope d C b s H) j g) (r:∀C b s H,nJ (blk X scope d C b s H) e tc) (t:∀C b s H,PE (blk X scope d C b s H) f te)
  (hs:∀x,im a X.env x=pure x:=by intro _;rfl):PE X (.ListComp f [⟨j,a,e,0⟩] scope pos) (xE wi g tc te (eJ k n)):=by
 intro c s u H Q I h;refine qo rfl hs (Hr λy w hf=>I.ok.has y.1 (B.frees y w hf)) B.kind B.names (aI (o c s u H _ I h) λv z A=>aI A λD K E=>?_);refine z4h hc B p r t E ?_;intro l C F z ns _ _ _ _ _ _ i q;obtain⟨m,hn⟩:=ns;exact⟨m,hn,λG J=>⟨.ref l,F,i G J,rfl,q⟩⟩
def Ob (i:Nat)(t:TE):TS:=λD σ H=>t σ H λv H1=>D.nx (σ.set i (Z9 v)) H1
theorem z4s (hc:X.calm=Z7)(hN:X.N.Nodup)(hy:X.N[i]?=Z9 y)(hl:X.env.scope.names.lookup y=Z9 .local)(hz:∀u,(y,u)∉X.fx)(B:BlkScope X scope N' nt js)(hi:PI X tg iter wi)
  (hg:∀C fp s H,PG (blk X scope N' C fp s H) tg g) (ht:∀C fp s H,nJ (blk X scope N' C fp s H) ifs tc) (he:∀C fp s H,PE (blk X scope N' C fp s H) elt te)
  (Oc:l7 (.ListComp elt [⟨tg,iter,ifs,0⟩] scope pos) (Z9 (.Name y py)) spos.line X.env=pure Z7)
  (hs:∀x,im iter X.env x=pure x:=by intro _;rfl):PS X (.Assign [.Name y py] (.ListComp elt [⟨tg,iter,ifs,0⟩] scope pos) spos) (Ob i (xE wi g tc te (eJ nt js))):=by
 intro pins s σ H D I h;rw[exec_Assign_Name_used _ _ _ _ Oc];apply ac;apply n8;apply ac;refine ac (gq (qo (use:=Z9 (vi (.Name y py) X.env)) rfl hs (Hr λz hz hf=>I.ok.has z.1 (B.frees z hz hf)) B.kind B.names (aI (hi pins s σ H _ I h) λv s1 h1=>aI h1 λwK s2 h2=>?_)) (λ_ s' hq=>ah (ah hq)) λ_ _ e=>e);refine z4h (Q:=λv H1=>D.nx (σ.set i (Z9 v)) H1) (RR:=λacc C=>compPost (model X.prog X.w) X.A X.xe (Z9 (vi (.Name y py) X.env)) (λ_ s'=>SP X pins D .next s') acc C) hc B hg ht he h2 ?_;intro l C H' s1 ns hH nL nF nC nS nP out q;obtain⟨m,hn⟩:=ns;have I1:=out s1.heap (.refl ..);obtain⟨oC,es,ep,Od,Hy,Oe⟩:=id hn
 have I2:Inv X (pins++[(C,oC)]) σ H' s1:=I1.fT λp hp=>(bw.mp hp).elim (λz=>I1.pin p (bg _ z)) λz=>by
  have e:p=(C,oC):=by simpa using z
  subst e;exact⟨Od,hH,nL,nF,λv z=>by have z':=z;rw[Hy]at z';cases z'⟩
 refine wb (z57 I2 hN hy (.inl hl) (v:=.ref l) rfl (λrA Hz=>?_) ⟨.inr hl,hz⟩);refine⟨m,⟨oC,es,ep,(Hz.pin (C,oC) (bg _ (bg _ (ag.mpr rfl)))).1,Hy,Oe⟩,λh' sb=>⟨_,H',?_,q⟩⟩;exact(Hz.bO).turned (λb o hb e=>sb.extBut b o hb e) hH nL (.inr nS) nC nP
end
theorem zwu {J:It}{g:TG}{tc:TT}{te:TE}{Q:VK}(P:Nat->List V->Hp->Prop)(hn:n<=bh)(h0:P 0 [] (upd A l (.lst [])))
  (q:∀i a H,P i a H->a.length<=i)
  (h:∀a H,P n a H->J.stop n H/\Q (.ref l) H) (u:∀i a H,i<n->P i a H->J.go i H)
  (r:∀i a H x j,i<n->P i a H->J.gG i H x j->g x k j λc v=>fV k c/\tc c v λb s=>if b=Z7 then te c s λy t=>t l=Z9 (.lst a)/\P (i+1) (a++[y]) (upd t l (.lst (a++[y])))else P (i+1) a s):
  ∃P:Nat->Nat->List V->Hp->Prop,(∃m,P 0 m [] (upd A l (.lst [])))/\∀i m a f,P i m a f->(J.stop i f/\Q (.ref l) f)\/(J.go i f/\a.length<bh/\∃N:List V->Hp->Prop,(∀d w,N d w->∃z,z<m/\P (i+1) z d w)/\∀x j,J.gG i f x j->g x k j λc v=>fV k c/\tc c v λb s=>if b=Z7 then te c s λy t=>t l=Z9 (.lst a)/\N (a++[y]) (upd t l (.lst (a++[y])))else N a s):=by
 refine⟨λi m a H=>i<=n/\m=n-i/\P i a H,⟨n,cy _,rfl,h0⟩,?_⟩
 rintro i m a f ⟨C,rfl,p⟩
 by_cases o:i<n
 .have D:=q i a f p;exact .inr ⟨u i a f o p,by omega,P (i+1),λd w B=>⟨n-(i+1),by omega,o,rfl,B⟩,λx j y=>r i a f x j o p y⟩
 .have e:i=n:=by omega
  subst e;exact .inl (h a f p)
section
variable {X:Cx}
def xI:V->Option Int->Option Int->Hp->VK->Prop:=λx lo hi H Q=>∃z,x=.str z/\z.length<=bh/\Q (.str (Txt.slice z lo hi)) H
theorem Of:mF X xI:=by
 rintro b s h H x v r w m n sl Q I p hs pl f ⟨z,rfl,c,q⟩
 obtain⟨t,rfl⟩:=p;refine⟨"str",_,PySem.F.slot_str_getitem.lookup,xw _ _ _,?_⟩;obtain⟨o,d,hc,hd⟩:=hs;have a:∀g k,EP X b h Q (.str (Txt.slice z m n) g) {s with toks:=k}:=λg k=>⟨.str _,H,I.tok _,⟨_,rfl⟩,q⟩;cases pl with
 |none=>
  cases f with
  |none=>exact jw (l:=Z8) (u:=Z8) (st:=Z8) ⟨o,d,hc,hd⟩ rfl (oz ⟨bp (Txt.slice_le z _ _) c,a⟩)
  |int j e=>exact jw (l:=Z8) (u:=Z9 (j,e)) (st:=Z8) ⟨o,d,hc,hd⟩ rfl (oz ⟨bp (Txt.slice_le z _ _) c,a⟩)
 |int i ti=>
  cases f with
  |none=>exact jw (l:=Z9 (i,ti)) (u:=Z8) (st:=Z8) ⟨o,d,hc,hd⟩ rfl (oz ⟨bp (Txt.slice_le z _ _) c,a⟩)
  |int j e=>exact jw (l:=Z9 (i,ti)) (u:=Z9 (j,e)) (st:=Z8) ⟨o,d,hc,hd⟩ rfl (oz ⟨bp (Txt.slice_le z _ _) c,a⟩)
theorem Og (m:X.calm=Z7):CallR X (.builtin "all") (λj H Q=>∃(p:Addr) (bs:List Bool),j=[.ref p]/\SqL X.K H p (bs.map V.bl)/\Q (.bl (bs.all id)) H):=by
 rintro l s D H j E Q I r ⟨p,bs,rfl,n,q⟩
 obtain⟨u,rfl,rfl⟩:=vals1 r;obtain⟨f,rv,pl,F⟩:=I.list n;refine call_all_walk (jm pl.isList ?_);have ne:p≠s.heap.objs.size:=by obtain⟨o,ho,_⟩:=pl.isList;exact cu (bj ho)
 have c:=by have:=rv.length;rw[ae]at this;exact this
 refine⟨s.heap.objs.size,_,_,_,_,_,λi=>bs.getD i Z7,rfl,Walks.list (A:=X.A.in1) (I.ok.hd m) s.heap.objs.size p ne f.toArray,⟨⟨_,ax _ rfl,rfl,rfl⟩,pl.isList.at λo e=>af _ e⟩,?_,?_⟩
 .intro i v t w G x y;have d:f[i]?=Z9 v:=by simpa using x
  have hb:i<bs.length:=c▸(ba.mp d).1;obtain⟨J,hu,B⟩:=rv.get (by rw[ar,am hb];rfl);rw[d]at hu;cases hu;cases B;refine il ?_;have e:bs.getD i Z7=bs[i]:=by simp[az,hb]
  have g:w (bs.getD i Z7) t:=y;rw[e]at g;exact g
 .intro L M k;refine⟨.bl (bs.all id),H,I.kept λb o e=>?_,?_,q⟩
  .refine k b o (λz=>?_) (af _ e);have C:b=s.heap.objs.size:=by simpa using z
   exact absurd (bj e) (C▸dk _)
  .have e:(cc f.toArray.size).all (fun i=>bs.getD i Z7)=bs.all id:=by
    rw[cb,<-c];apply o0.mpr;simp only[cx];constructor
    .intro a b hb;obtain⟨i,d,rfl⟩:=List.mem_iff_getElem.mp hb;have:=a i (gf.mpr d);simpa[az,d]using this
    .intro a i d;rw[gf]at d;have h:=d;have:=a bs[i] (ig h);simpa[az,h]using this
   rw[e];rfl
end
def Own (K:Z5)(mg:Str->Option Value)(x:Str)(st:Stmt)(ps:List Str):Prop:=∃f fd,Fun K x x st f fd/\mg x=Z9 (.ref f)/\Z3 K (.ref f)=Z7/\Binds K fd ps []
def Cal (P:cg)(w:World)(K:Z5)(mg:Str->Option Value)(base:Heap)(k:Nat)(x:Str)(ps:List Str)(sp:Sp):Prop:=∃f fd,FnOk P w K mg base mG k f fd ps sp/\mg x=Z9 (.ref f)/\Z3 K (.ref f)=Z7/\Binds K fd ps []
section
variable {P:cg}{w:World}{K:Z5}{mg:Str->Option Value}{base:Heap}
theorem zq0 {st:Stmt}{kV:Value}(X:K.In h)(G:h.Ns ce mg)
  (a:Z1 K ce x=Z9 (Z9 (.ref f))) (l:K.lookup f=Z9 ⟨oc,od,.func (W.fnOf x x (z11 st) (z0j st) (z08 st) .none kV e i an d ct),j⟩) (c:W.codeIn K d x=Z7) (k:Z3 K (.ref f)=Z7)
  (b:∀kV e i an d ct g,g.length=ps.length->xu (W.fnOf x x (z11 st) (z0j st) (z08 st) .none kV e i an d ct) ⟨g,[]⟩=pure (ps.zip g)):Own K mg x st ps:=
 ⟨f,_,Cj l c k,W.mg_of X G a,k,(Cj l c k).binds b⟩
end
def isStar:Expr->Bool
 |.Starred ..=>Z7
 |_=>Z6
theorem eX (h:isStar e=Z6):fq (e::a) env=(Z6,eval e env)::fq a env:=by cases e<;>first|rfl|cases h
theorem nK:∀{es:List Expr},(es.all λe=> !isStar e)=Z7->(ow pos (fq es env)).any (·.1)=Z6
 | [],_=>rfl
 |e::es,h=>by have a:=bn.mp (eg▸h);rw[eX (by simpa using a.1)];show(Z6||(ow pos (fq es env)).any (·.1))=Z6;rw[nK a.2];rfl
section
variable {X:Cx}{x:Str}{p pos:Pos}{e:Expr}{es:List Expr}{t:TA}{id T:String}{r:List V->Hp->VK->Prop}
theorem cV (a:PE X e te)(hr:PA X es t)(hs:isStar e=false:=by rfl):PA X (e::es) (pK te t):=zU a hr (eX hs)
theorem uG (hc:CallR X (.builtin id) r)(hm:X.mg x=Z8)(c:db x=Z9 (.builtin id))(d:PA X (e::es) t)(a:((e::es).all λe=> !isStar e)=true:=by rfl)(f:Gl X x:=by rfl)(hn:x≠"__name__":=by decide)(b:XX x:=by decide):PE X (.Call (.Name x p) (e::es) [] pos) (mZ r t):=by rw[eg,cq]at a;exact zgj hc f hm c d hn b (eX (by simpa using a.1)) (nK a.2)
theorem z3 (hc:CallR X (.type T) r)(hm:X.mg x=Z8)(c:db x=Z9 (.type T))(d:PA X (e::es) t)(a:((e::es).all λe=> !isStar e)=true:=by rfl)(f:Gl X x:=by rfl)(hn:x≠"__name__":=by decide)(b:XX x:=by decide):PE X (.Call (.Name x p) (e::es) [] pos) (mZ r t):=by rw[eg,cq]at a;exact zei hc f hm c d hn b (eX (by simpa using a.1)) (nK a.2)
theorem zer (C:Cal X.prog X.w X.K X.mg X.base k x ps d)(hr:Room g X.A)(h:PA X (e::es) t)(a:((e::es).all fun e=> !isStar e)=true:=by rfl)(i:k<=g:=by decide)(j:Gl X x:=by rfl)
  (c:XX x:=by decide):PE X (.Call (.Name x p) (e::es) [] pos) (uC d [] E0 t):=by
 obtain⟨f,fd,F,m,kp,b⟩:=C;rw[eg,cq]at a;exact zdc F (hr.mono i) j m kp b .nil N1 h c (eX (by simpa using a.1)) (nK a.2)
end
def z1j:Expr->Bool
 |.ListComp ..=>Z7
 |.SetComp ..=>Z7
 |.DictComp ..=>Z7
 |_=>Z6
theorem rH (h:z1j e=Z6)(a:Option Expr)(n:Nat)(env:Env):l7 e a n env=pure false:=by cases e<;>first|rfl|cases h
theorem xJ (hN:X.N.Nodup)(a:X.N[i]?=Z9 x)(b:Loc X.env.scope x)(c:PE X e d)(hs:z1j e=false:=by rfl)(f:Sto X x:=by first|exact⟨.inl rfl,nofun⟩|exact⟨.inr rfl,nofun⟩|assumption): PS X (.Assign [.Name x pos'] e pos) (iH d (mY i)):=z9e hN a b c (rH hs _ _ _) f
theorem lC (a:PE X e te)(hs:z1j e=false:=by rfl):PS X (.Expr e pos) (qU te):=M1 a (rH hs _ _ _)
section
variable {X:Cx}
def Cv (K:Z5):R2:=λx y H Q=>kY (λi j=>.int (i+j)) x y H Q\/(∃i j,x=.str i/\y=.str j/\i.length+j.length<=bh/\Q (.str (i++j)) H)\/wZ x y H Q\/Hi K x y H Q
def xK:R2:=λx y H Q=>kY (λi j=>.bl (decide (i<j))) x y H Q
def xM:R2:=λx y H Q=>kY (λi j=>.bl (decide (j<i))) x y H Q
def Cw (K:Z5):V->Option Int->Option Int->Hp->VK->Prop:=λx lo hi H Q=>wW K x lo hi H Q\/xI x lo hi H Q
def Oh (K:Z5):List V->Hp->VK->Prop:=λxs H Q=>(∃z,xs=[.str z]/\z.length<=bh/\Q (.int z.length) H)\/(∃p ys,xs=[.ref p]/\(SqL K H p ys\/bN K H p ys)/\Q (.int ys.length) H)
theorem Oi:OpR X (i3 .Add) (Cv X.K):=M'.or (Nj.or (NW.or NK))
theorem Cy:OpR X (ge .Lt) xK:=Nf
theorem Cz:OpR X (ge .Gt) xM:=Ng
theorem Oj:kN X (uF X.K):=Hl
theorem Ol:mF X (Cw X.K):=NQ.or Of
theorem Om:CallR X (.builtin "len") (Oh X.K):=NS.or NR
end
def isT (t T:String):Bool:=t==T||(t=="bool"&&T=="int")
def nM:List String:=["NoneType","bool","int","str","list","tuple","dict"]
def tysB:List String:=["str","int","bool","tuple","list"]
theorem Oq (K:Z5):∀t∈nM,∀T∈tysB,W.kitOne K (.type t) (.type T)=Z9 (isT t T):=by intro t a T b;simp only[nM,au,nq,or_false]at a;simp only[tysB,au,nq,or_false]at b;rcases a with rfl|rfl|rfl|rfl|rfl|rfl|rfl<;>rcases b with rfl|rfl|rfl|rfl|rfl<;>kernel_rfl
section
variable {D:Ends}{σ:St}{H:Hp}{Q:VK}{t u:TS}{te ta tb XB:TE}{r r':R2}{K:Z5}
theorem Ot (h:Q (.int (i+j)) H):Cv K (.int i) (.int j) H Q:=.inl ⟨i,j,rfl,rfl,h⟩
theorem Ou (c:i.length+j.length<=bh)(h:Q (.str (i++j)) H):Cv K (.str i) (.str j) H Q:=.inr (.inl ⟨i,j,rfl,rfl,c,h⟩)
theorem Ov (h:Q (.bl (decide (i<j))) H):xK (.int i) (.int j) H Q:=⟨i,j,rfl,rfl,h⟩
theorem Ow (h:Q (.bl (decide (j<i))) H):xM (.int i) (.int j) H Q:=⟨i,j,rfl,rfl,h⟩
end
section
variable {K:Z5}{H:Hp}{Q:VK}
end
section
variable {K:Z5}{H:Hp}{Q:VK}
theorem Same.upd (h:H p=Z8):Same H (L2.upd H p o):=λb u e=>by rw[aB (dE e h)];exact e
theorem CA (h:n<=1000):n<=bh:=bp h (by rw[dw];decide)
end
end L2
namespace Mi
open PySem
abbrev D:=aw
set_option genInjectivity true in
inductive Res (α:Type) where
 |ok (a:α)|exc (e:D)|no
namespace Res
def bind {α β:Type}(x:Res α)(f:α->Res β):Res β:=match x with
 |.ok a=>f a
 |.exc e=>.exc e
 |.no=>.no
instance:Monad Res where
 pure:=.ok
 bind:=Res.bind
theorem aC {b c:Type}(a:b)(f:b->Res c):(Res.ok a>>=f)=f a:=rfl
def eE {α:Type}:Option α->Res α
 |some a=>.ok a
 |none=>.no
theorem aA {c d:Type}{x:Res c}{f:c->Res d}{b:d}(h:(x>>=f)=.ok b):∃a,x=.ok a/\f a=.ok b:=by
 cases x with
 |ok a=>exact⟨a,rfl,h⟩
 |exc e=>cases h
 |no=>cases h
end Res
mutual
def aL:aw->Bool
 |.tuple xs=>imms xs
 |.list _=>Z6
 |.dict _=>Z6
 |.none=>Z7
 |.bool _=>Z7
 |.int _=>Z7
 |.str _=>Z7
def imms:List aw->Bool
 | []=>Z7
 |x::xs=>aL x&&imms xs
end
theorem uH:∀{a:List D},imms a=Z7↔∀x∈a,aL x=Z7
 | []=>by simp[imms]
 |x::a=>by rw[imms,cq,uH];simp
abbrev dV:D->D->Bool:=PyData.eqv
mutual
def aR:Nat->aw->Bool
 |0,.tuple _=>Z6
 |0,.list _=>Z6
 |n+1,.tuple xs=>eO n xs
 |n+1,.list xs=>eO n xs
 |_,.dict _=>Z6
 |_,.none=>Z7
 |_,.bool _=>Z7
 |_,.int _=>Z7
 |_,.str _=>Z7
def eO:Nat->List aw->Bool
 |_,[]=>Z7
 |n,x::xs=>aR n x&&eO n xs
end
theorem nN:∀{xs:List D},eO n xs=Z7↔∀x∈xs,aR n x=Z7
 | []=>by simp[eO]
 |x::xs=>by rw[eO,cq,nN];simp
def truth:aw->Bool
 |.none=>Z6
 |.bool b=>b
 |.int i=>!decide (i=0)
 |.str x=>!decide (x.length=0)
 |.tuple xs=>!xs.isEmpty
 |.list xs=>!xs.isEmpty
 |.dict es=>!es.isEmpty
def iV (n:Nat)(i:Int):Option Nat:=if 0<=i then(if i<n then Z9 i.toNat else Z8)else if -(n:Int)<=i then Z9 (i+n).toNat else Z8
def cR {α:Type}(xs:List α)(i:Int):Option α:=(iV xs.length i).bind λj=>xs[j]?
def aU (n d:Nat):Option Int->Nat
 |none=>d
 |some v=>if v<0 then(v+(n:Int)).toNat else min v.toNat n
def cut {α:Type}(xs:List α)(lo hi:Option Int):List α:=(xs.drop (aU xs.length 0 lo)).take (aU xs.length xs.length hi-aU xs.length 0 lo)
def eqK:aw->aw->Bool
 |.int a,y=>match y with|.int b=>a==b|_=>Z6
 |.str a,y=>match y with|.str b=>decide (a=b)|_=>Z6
 |_,_=>Z6
def jM:aw->Bool
 |.int _=>Z7
 |.str _=>Z7
 |_=>Z6
abbrev bF:=List (D×D)
def eP (es:bF)(k:D):Option D:=(es.find? λe=>eqK e.1 k).map (·.2)
def dput (es:bF)(k v:D):bF:=if es.any (λe=>eqK e.1 k)then es.map (λe=>if eqK e.1 k then(e.1,v)else e)else es++[(k,v)]
def ent (e:D×D):D:=.tuple [e.1,e.2]
def jN:bF->List D->Option bF
 |es,[]=>Z9 es
 |es,p::ps=>match p with
  |.tuple [k,v]=>if jM k then jN (dput es k v) ps else Z8
  |_=>Z8
mutual
def lD:aw->aw->Bool
 |.int a,y=>match y with|.int b=>decide (a<b)|_=>Z6
 |.str a,y=>match y with|.str b=>decide (a.cps.toList<b.cps.toList)|_=>Z6
 |.tuple xs,y=>match y with|.tuple ys=>xN xs ys|_=>Z6
 |.none,_=>Z6
 |.bool _,_=>Z6
 |.list _,_=>Z6
 |.dict _,_=>Z6
def xN:List aw->List aw->Bool
 | [],ys=>!ys.isEmpty
 |x::xs,ys=>match ys with|y::ys=>if dV x y then xN xs ys else lD x y| []=>Z6
end
section
inductive G where
 |fr|od|al|nu
 deriving Inhabited,DecidableEq
abbrev Rho:=List (Option (G×D))
abbrev GD:=G×D
inductive Tg where
 |nm (i:Nat)|tp (is:List Nat)
 deriving Inhabited,DecidableEq
inductive C where
 |var (i:Nat)|non|bl (b:Bool)|int (i:Int)|str (x:Str)|glob (k:Nat) (x:Str)|bin (op:t5) (a b:C)|cmp (op:CmpOp) (a b:C)|and (a b:C)|or (a b:C)|not (a:C)|jO (c a b:C)|tup (xs:C)|lst (xs:C)|rep (xs b:C)|eA|ix (a b:C)|sl (a lo hi:C)|call (k:Nat) (f:Str) (args:C)|bi (f:String) (args:C)|gB (f:String) (a:C)|isT (a:C) (ts:List String)|mt (m:String) (o args:C)|comp (nt:Nat) (js:List Nat) (N':List Str) (tg:Tg) (it cond elt:C)|sortI (i:Nat)|iM (args:C)|enum (a:C)|zip (a b:C)|tv (a:C)|jP (b:Bool) (x:Str)|nil|cons (a r:C)
 deriving Inhabited
inductive S where
 |nil|seq (a b:S)|bad|asg (t:Tg) (e:C)|dW (i:Nat) (k v:C)|mut (m:String) (i:Nat) (args:C)|drop (e:C)|ret (e:C)|ifS (c:C) (a b:S)|bC (t:Tg) (it:C) (b:S)|nO (c:Str)
 deriving Inhabited
inductive Out where
 |nx (ρ:Rho)|rt (g:G) (d:D)
abbrev Fn:=List D->Res GD
def aZ:Nat:=1000000
def HB:G->G
 |.fr=>.al
 |.od=>.od
 |.al=>.al
 |.nu=>.nu
def z4:Option (Option GD)->Res GD
 |some (Z9 (g,d))=>.ok (if aL d then .fr else HB g,d)
 |_=>.no
def iW:D->Res Bool
 |.str x=>if x.length<=aZ then .ok (!decide (x.length=0))else .no
 |d=>.ok (truth d)
def iX:G->G
 |.fr=>.fr
 |.od=>.al
 |.al=>.al
 |.nu=>.fr
def agG:G->G
 |.fr=>.fr
 |.od=>.al
 |.al=>.al
 |.nu=>.nu
def gJ (d:D)(g:G):G:=if aL d then .fr else g
def gN (d:D)(g:G):G:=match d with
 |.list xs=>if imms xs then .fr else g
 |d=>gJ d g
def cB (xs:List GD):G:=if xs.all (λx=>x.1==.fr)then .fr else if xs.all (λx=>x.1==.fr||x.1==.nu)then .nu else .al
def nQ (xs:List GD):G:=if xs.all (λx=>x.1==.fr)then .fr else .al
def okIn (x:GD):Bool:=aL x.2||(x.1==.fr||x.1==.nu)
def bQ (es:bF):Bool:=es.all λe=>aL e.2
def z1r:GD->GD
 |(g,d)=>if aL d then(.al,d)else match g,d with
  |.fr,.list xs=>(if imms xs then .fr else .nu,.list xs)
  |.fr,.dict es=>(if bQ es then .fr else .nu,.dict es)
  |.fr,d=>(.nu,d)
  |.nu,d=>(.nu,d)
  |.od,d=>(.od,d)
  |.al,d=>(.al,d)
def z1u:GD->GD
 |(g,d)=>match g with|.od=>(.od,d)|_=>(.al,d)
def bW:Option GD->Option GD
 |some (.fr,d)=>Z9 (.al,d)
 |some (.nu,d)=>Z9 (.al,d)
 |s=>s
def eQ:Option GD->Option GD
 |some (.al,d)=>if aL d then Z9 (.al,d)else Z8
 |s=>s
def rJ:Rho->List Nat->List D->G->Option Rho
 |ρ,[],[],_=>Z9 ρ
 |ρ,i::is,d::ds,g=>rJ (ρ.set i (Z9 (z1u (gJ d g,d)))) is ds g
 |_,_,_,_=>Z8
def dQ:Tg->GD->Rho->Res Rho
 |.nm i,x,ρ=>.ok (ρ.set i (Z9 (z1u x)))
 |.tp is,(g,.tuple ds),ρ=>Res.eE (rJ ρ is ds g)
 |_,_,_=>.no
def CB:D->Res D
 |.str x=>if x.length<=aZ then .ok (.int x.length)else .no
 |.tuple xs=>.ok (.int xs.length)
 |.list xs=>.ok (.int xs.length)
 |.dict es=>.ok (.int es.length)
 |_=>.no
def xO {α:Type}(n:Nat)(xs:List α):List α:=(bo n xs).flatten
def cK:t5->D->D->Res D
 |.Add,.int a,.int b=>.ok (.int (a+b))
 |.Add,.str a,.str b=>if a.length+b.length<=aZ then .ok (.str (a++b))else .no
 |.Add,.list a,.list b=>if a.length+b.length<=aZ then .ok (.list (a++b))else .no
 |.Add,.tuple a,.tuple b=>if a.length+b.length<=aZ then .ok (.tuple (a++b))else .no
 |.Sub,.int a,.int b=>.ok (.int (a-b))
 |.Mult,.int a,.int b=>if(-(2 ^ 64)<a/\a<2 ^ 64)\/(-(2 ^ 64)<b/\b<2 ^ 64)then .ok (.int (a*b))else .no
 |.FloorDiv,.int a,.int b=>if 0<b/\b<2 ^ 200 then .ok (.int (a/b))else .no
 |.Mod,.int a,.int b=>if 0<b then .ok (.int (a%b))else .no
 |.Pow,.int a,.int b=>if 0<=b/\b<=1000/\a.natAbs<2 ^ 64 then .ok (.int (a ^ b.toNat))else .no
 |_,_,_=>.no
def inD (x:D):D->Res Bool
 |.list xs=>if aR 40 x&&eO 40 xs then .ok (xs.any λy=>dV y x)else .no
 |.tuple xs=>if aR 40 x&&eO 40 xs then .ok (xs.any λy=>dV y x)else .no
 |.dict es=>if jM x then .ok (eP es x).isSome else .no
 |_=>.no
def cmpD:CmpOp->D->D->Res Bool
 |.Eq,x,y=>if aR 40 x&&aR 40 y then .ok (dV x y)else .no
 |.NotEq,x,y=>if aR 40 x&&aR 40 y then .ok (!dV x y)else .no
 |.Lt,.int a,.int b=>.ok (decide (a<b))
 |.Gt,.int a,.int b=>.ok (decide (b<a))
 |.GtE,.int a,.int b=>.ok (decide (b<=a))
 |.In,x,y=>inD x y
 |.NotIn,x,y=>inD x y>>=λb=>.ok (!b)
 |_,_,_=>.no
def eR:D->D->Res D
 |.list xs,.int i=>Res.eE (cR xs i)
 |.tuple xs,.int i=>Res.eE (cR xs i)
 |.str z,.int i=>if z.length<=aZ then Res.eE ((cR z.cps.toList i).map λc=>.str ⟨#[c]⟩)else .no
 |.dict es,k=>if jM k then Res.eE (eP es k)else .no
 |_,_=>.no
def rK (z:Str)(lo hi:Option Int):Str:=⟨(cut z.cps.toList lo hi).toArray⟩
def rL:D->Option Int->Option Int->Res D
 |.list xs,lo,hi=>.ok (.list (cut xs lo hi))
 |.tuple xs,lo,hi=>if aU xs.length 0 lo=0/\aU xs.length xs.length hi=xs.length then .no else .ok (.tuple (cut xs lo hi))
 |.str z,lo,hi=>if z.length<=aZ then .ok (.str (rK z lo hi))else .no
 |_,_,_=>.no
def rM:D->Res (Option Int)
 |.int i=>.ok (Z9 i)
 |_=>.no
def z5f:D->Res (List D)
 |.list xs=>.ok xs
 |.tuple xs=>.ok xs
 |_=>.no
def fW:List D->Option Int
 | []=>Z9 0
 |.int i::r=>(fW r).map (i+ ·)
 |_=>Z8
def allB:List D->Option (List Bool)
 | []=>Z9 []
 |.bool b::r=>(allB r).map (b:: ·)
 |_=>Z8
def xP:List D->Option (List Str)
 | []=>Z9 []
 |.str b::r=>(xP r).map (b:: ·)
 |_=>Z8
def z55:D->Res (Bool×List D)
 |.list xs=>.ok (Z7,xs)
 |.tuple xs=>.ok (Z6,xs)
 |_=>.no
def aggD (f:String)(l:Bool)(xs:List D):Res D:=
 if f="list"then .ok (.list xs)
 else if f="tuple"then .ok (.tuple xs)
 else if f="sum"then(if l then Res.eE ((fW xs).map .int)else .no)
 else if f="all"then(if l then Res.eE ((allB xs).map λbs=>.bool (bs.all id))else .no)
 else if f="any"then(if l then Res.eE ((allB xs).map λbs=>.bool (bs.any id))else .no)
 else if f="dict"then Res.eE ((jN [] xs).map .dict)
 else .no
def hX (f:String)(xs:List D):Res D:=
 if f="len"then(match xs with| [x]=>CB x|_=>.no)
 else if f="max"then(match xs with| [.int a,.int b]=>.ok (.int (max a b))|_=>.no)
 else if f="int"then(match xs with| [.int a]=>.ok (.int a)| [.bool b]=>.ok (.int (if b then 1 else 0))|_=>.no)
 else .no
def jQ:D->String
 |.none=>"NoneType"|.bool _=>"bool"|.int _=>"int"|.str _=>"str"|.tuple _=>"tuple"|.list _=>"list"|.dict _=>"dict"
def nR (t T:String):Bool:=t==T||(t=="bool"&&T=="int")
def Ox (sep:List Nat):List Str->List Nat
 | []=>[]
 |x::r=>x.cps.toList++(r.map λp=>sep++p.cps.toList).flatten
def Oy (sep:Str)(xs:List Str):Str:=⟨(Ox sep.cps.toList xs).toArray⟩
def Oz (sep:Str)(xs:List Str):Nat:=(xs.map (·.length)).sum+xs.length*sep.length
def mtD (m:String)(o:D)(xs:List D):Res D:=
 if m="get"then(match o,xs with|.dict es,[k,d]=>if jM k then .ok ((eP es k).getD d)else .no|_,_=>.no)
 else if m="join"then(match o,xs with|.str z,[.list ys]=>(match xP ys with|some ss=>if Oz z ss<=aZ then .ok (.str (Oy z ss))else .no|none=>.no)|_,_=>.no)
 else .no
def jR:List D->Res (List D)
 | [.int n]=>if n<=aZ/\-aZ<=n then .ok ((cc n.toNat).map λ(i:Nat)=>.int i)else .no
 |_=>.no
def z22:Nat->List D->List D
 |_,[]=>[]
 |i,x::xs=>.tuple [.int i,x]::z22 (i+1) xs
def zipD:List D->List D->List D
 |x::xs,y::ys=>.tuple [x,y]::zipD xs ys
 |_,_=>[]
def seqR:D->Res (List D)
 |.list xs=>if decide (xs.length<=aZ)then .ok xs else .no
 |.tuple xs=>if decide (xs.length<=aZ)then .ok xs else .no
 |_=>.no
def nU (ys:List GD):D->Res GD
 |.int n=>if imms (ys.map (·.2))=Z7/\0<=n/\n<=aZ/\ys.length*n.toNat<=aZ then .ok (.fr,.list (xO n.toNat (ys.map (·.2))))else .no
 |_=>.no
def oc:Option GD->List GD->List GD
 |some y,r=>y::r
 |none,r=>r
def hY (f:D->Res (Option GD)):List D->Res (List GD)
 | []=>.ok []
 |x::xs=>f x>>=λo=>hY f xs>>=λr=>.ok (oc o r)
variable (Κ:List D)(Φ:List Fn)
mutual
def aF:C->Rho->Res GD
 |.var i,ρ=>z4 ρ[i]?
 |.non,_=>.ok (.fr,.none)
 |.bl b,_=>.ok (.fr,.bool b)
 |.int i,_=>.ok (.fr,.int i)
 |.str x,_=>.ok (.fr,.str x)
 |.jP b _,_=>.ok (.fr,.bool b)
 |.glob k _,_=>match Κ[k]? with|some d=>if aL d then .ok (.fr,d)else .no|none=>.no
 |.bin op a b,ρ=>aF a ρ>>=λx=>aF b ρ>>=λy=>cK op x.2 y.2>>=λd=>.ok (gN d (cB [x,y]),d)
 |.cmp op a b,ρ=>aF a ρ>>=λx=>aF b ρ>>=λy=>cmpD op x.2 y.2>>=λb=>.ok (.fr,.bool b)
 |.and a b,ρ=>aF a ρ>>=λx=>match x.2 with|.bool c=>if c then aF b ρ else .ok (.fr,.bool Z6)|_=>.no
 |.or a b,ρ=>aF a ρ>>=λx=>match x.2 with|.bool c=>if c then .ok (.fr,.bool Z7)else aF b ρ|_=>.no
 |.not a,ρ=>aF a ρ>>=λx=>iW x.2>>=λc=>.ok (.fr,.bool (!c))
 |.jO c a b,ρ=>cP c ρ>>=λk=>if k then aF a ρ else aF b ρ
 |.tup xs,ρ=>cW xs ρ>>=λys=>.ok (gJ (.tuple (ys.map (·.2))) (cB ys),.tuple (ys.map (·.2)))
 |.lst xs,ρ=>cW xs ρ>>=λys=>.ok (cB ys,.list (ys.map (·.2)))
 |.rep xs b,ρ=>cW xs ρ>>=λys=>aF b ρ>>=λn=>nU ys n.2
 |.eA,_=>.ok (.fr,.dict [])
 |.ix a b,ρ=>aF a ρ>>=λx=>aF b ρ>>=λy=>eR x.2 y.2>>=λd=>.ok (gJ d x.1,d)
 |.sl a lo hi,ρ=>aF a ρ>>=λx=>rN lo ρ>>=λl=>rN hi ρ>>=λh=>rL x.2 l h>>=λd=>.ok (gN d (cB [x]),d)
 |.call k _ args,ρ=>cW args ρ>>=λys=>match Φ[k]? with|some m=>m (ys.map (·.2))>>=λr=>.ok (gJ r.2 (iX r.1),r.2)|none=>.no
 |.bi f args,ρ=>cW args ρ>>=λys=>hX f (ys.map (·.2))>>=λd=>.ok (gJ d .al,d)
 |.gB f a,ρ=>CC a ρ>>=λw=>aggD f w.2.1 w.2.2>>=λd=>.ok (gJ d (if imms w.2.2 then .fr else agG w.1),d)
 |.isT a ts,ρ=>aF a ρ>>=λx=>.ok (.fr,.bool (ts.any λT=>nR (jQ x.2) T))
 |.mt m o args,ρ=>aF o ρ>>=λx=>cW args ρ>>=λys=>mtD m x.2 (ys.map (·.2))>>=λd=>.ok (gJ d .al,d)
 |.sortI i,ρ=>match ρ[i]? with
  |some (Z9 (_,.dict es))=>if bQ es&&decide (es.length<2)then .ok (.fr,.list (es.map ent))else .no
  |_=>.no
 |.comp nt js _ tg it cond elt,ρ=>evW it ρ>>=λw=>hY (λx=>dQ tg (gJ x w.1,x) (bo nt Z8++js.map λj=>bW (ρ.getD j Z8))>>=λρ1=>cP cond ρ1>>=λk=>if k then aF elt ρ1>>=λy=>.ok (Z9 y)else .ok Z8) w.2>>=λys=>.ok (nQ ys,.list (ys.map (·.2)))
 |_,_=>.no
def cP:C->Rho->Res Bool
 |.and a b,ρ=>cP a ρ>>=λc=>if c then cP b ρ else .ok Z6
 |.or a b,ρ=>cP a ρ>>=λc=>if c then .ok Z7 else cP b ρ
 |.not a,ρ=>cP a ρ>>=λc=>.ok (!c)
 |.nil,_=>.ok Z7
 |.tv a,ρ=>aF a ρ>>=λx=>iW x.2
 |_,_=>.no
def cW:C->Rho->Res (List GD)
 |.nil,_=>.ok []
 |.cons a r,ρ=>aF a ρ>>=λx=>cW r ρ>>=λxs=>.ok (x::xs)
 |_,_=>.no
def rN:C->Rho->Res (Option Int)
 |.nil,_=>.ok Z8
 |.tv a,ρ=>aF a ρ>>=λx=>rM x.2
 |_,_=>.no
def CC:C->Rho->Res (G×Bool×List D)
 |.tv a,ρ=>aF a ρ>>=λx=>z55 x.2>>=λp=>.ok (x.1,p)
 |_,_=>.no
def evW:C->Rho->Res (G×List D)
 |.iM args,ρ=>cW args ρ>>=λys=>jR (ys.map (·.2))>>=λxs=>.ok (.fr,xs)
 |.tv a,ρ=>aF a ρ>>=λx=>z5f x.2>>=λxs=>.ok (x.1,xs)
 |.enum a,ρ=>aF a ρ>>=λx=>seqR x.2>>=λxs=>.ok (.al,z22 0 xs)
 |.zip a b,ρ=>aF a ρ>>=λx=>aF b ρ>>=λy=>seqR x.2>>=λxs=>seqR y.2>>=λys=>.ok (.al,zipD xs ys)
 |_,_=>.no
end
def nV:Res Out->(Rho->Res Out)->Res Out
 |.ok (.nx ρ),k=>k ρ
 |r,_=>r
def cX (f:D->Rho->Res Out):List D->Rho->Res Out
 | [],ρ=>.ok (.nx ρ)
 |x::xs,ρ=>match f x ρ with
  |.ok (.nx dX)=>cX f xs dX
  |.ok (.rt g d)=>.ok (.rt g d)
  |.exc e=>.exc e
  |.no=>.no
def putAt (xs:List D)(ys:List GD):Res (List D):=match ys with
 | [x,y]=>(match x.2 with
  |.int i=>if okIn y&&decide (xs.length<aZ)&&decide (0<=i)&&decide (i<=xs.length)then .ok (xs.take i.toNat++y.2::xs.drop i.toNat)else .no
  |_=>.no)
 |_=>.no
def jS (m:String)(xs:List D)(ys:List GD):Res (List D):=
 if m="append"then(match ys with| [y]=>if okIn y&&decide (xs.length<aZ)then .ok (xs++[y.2])else .no|_=>.no)
 else .no
def nX (ρ:Rho)(i:Nat):Bool:=match ρ[i]? with
 |some (Z9 (.fr,_))=>Z7
 |_=>Z6
def z5 (i:Nat)(ρ:Rho):Res (G×List D×Rho):=match ρ[i]? with
 |some (Z9 (.fr,d))=>z5f d>>=λxs=>.ok (.al,xs,ρ.set i (Z9 (.al,d)))
 |_=>.no
def CD:Option GD->Option GD
 |some (.fr,.list xs)=>Z9 (.al,.list xs)
 |s=>s
def lE (x:GD)(ρ:Rho):Res (G×List D×Rho):=match x.2 with
 |.list xs=>if imms xs then .ok (.al,xs,ρ.map CD)else .no
 |_=>.no
def pL (x:GD):Bool:=match x.2 with
 |.list _=>!(x.1==.al)
 |d=>!(x.1==.al)||aL d
def nY (ys:List GD)(ρ:Rho):Res (G×List D×Rho):=match ys with
 | [x]=>if pL x then seqR x.2>>=λxs=>.ok (.al,z22 0 xs,ρ)else .no
 |_=>.no
def nZ (ys:List GD)(ρ:Rho):Res (G×List D×Rho):=match ys with
 | [x,y]=>if pL x&&pL y then seqR x.2>>=λxs=>seqR y.2>>=λzs=>.ok (.al,zipD xs zs,ρ)else .no
 |_=>.no
def lF (it:C)(ρ:Rho):Bool:=match evW Κ Φ it ρ with
 |.ok w=>w.1==.al
 |_=>Z6
def rO (it:C)(ρ:Rho):Res (G×List D×Rho):=evW Κ Φ it ρ>>=λw=>if w.1==.al then .no else .ok (w.1,w.2,ρ)
def evF (it:C)(ρ:Rho):Res (G×List D×Rho):=match it with
 |.tv (.var i)=>if nX ρ i then z5 i ρ else if lF Κ Φ it ρ then aF Κ Φ (.var i) ρ>>=λx=>lE x ρ else rO Κ Φ it ρ
 |.tv a=>if lF Κ Φ it ρ then aF Κ Φ a ρ>>=λx=>lE x ρ else rO Κ Φ it ρ
 |.enum a=>cW Κ Φ (.cons a .nil) ρ>>=λys=>nY ys ρ
 |.zip a b=>cW Κ Φ (.cons a (.cons b .nil)) ρ>>=λys=>nZ ys ρ
 |it=>rO Κ Φ it ρ
def excOf:Res GD->Option Str
 |.exc (.str c)=>Z9 c
 |_=>Z8
def aW:S->Rho->Res Out
 |.nil,ρ=>.ok (.nx ρ)
 |.seq a b,ρ=>nV (aW a ρ) (aW b)
 |.bad,_=>.no
 |.asg (.nm i) e,ρ=>aF Κ Φ e ρ>>=λx=>.ok (.nx (ρ.set i (Z9 (z1r x))))
 |.asg t e,ρ=>aF Κ Φ e ρ>>=λx=>dQ t x ρ>>=λdX=>.ok (.nx dX)
 |.dW i k v,ρ=>aF Κ Φ v ρ>>=λy=>aF Κ Φ k ρ>>=λx=>match ρ[i]? with
  |some (Z9 (.fr,.dict es))=>if jM x.2&&okIn y&&decide (es.length<aZ)then .ok (.nx ((ρ.set i (Z9 (.fr,.dict (dput es x.2 y.2)))).map eQ))else .no
  |some (Z9 (.fr,.list xs))=>(match x.2 with
   |.int j=>if okIn y then(match iV xs.length j with|some n=>.ok (.nx ((ρ.set i (Z9 (.fr,.list (xs.set n y.2)))).map eQ))|none=>.no)else .no
   |_=>.no)
  |_=>.no
 |.mut m i args,ρ=>cW Κ Φ args ρ>>=λys=>match ρ[i]? with
  |some (Z9 (.fr,.list xs))=>jS m xs ys>>=λCF=>.ok (.nx ((ρ.set i (Z9 (.fr,.list CF))).map eQ))
  |_=>.no
 |.drop e,ρ=>aF Κ Φ e ρ>>=λ_=>.ok (.nx ρ)
 |.ret e,ρ=>match e with
  |.var i=>match ρ[i]? with
   |some (Z9 (g,d))=>.ok (.rt (if aL d then .fr else iX g) d)
   |_=>.no
  |e=>aF Κ Φ e ρ>>=λx=>.ok (.rt (iX x.1) x.2)
 |.ifS c a b,ρ=>cP Κ Φ c ρ>>=λk=>if k then aW a ρ else aW b ρ
 |.bC t it b,ρ=>evF Κ Φ it ρ>>=λw=>cX (λx ρ1=>dQ t (gJ x w.1,x) ρ1>>=λrP=>aW b rP) w.2.1 w.2.2
 |.nO _,_=>.no
def OA (Κ:List D)(Φ:List Fn)(_:S)(_:Rho):Option Str:=Z8
def aM (n:Nat)(s:S)(ds:List D):Res GD:=match aW Κ Φ s (ds.map (λd=>Z9 (.od,d))++bo (n-ds.length) Z8)with
 |.ok (.nx _)=>.ok (.fr,.none)
 |.ok (.rt g d)=>.ok (g,d)
 |_=>match OA Κ Φ s (ds.map (λd=>Z9 (.od,d))++bo (n-ds.length) Z8)with
  |some c=>.exc (.str c)
  |none=>.no
end
open PySem.Spec PyProof.Rows L2
def kD:Key->D
 |.inl i=>.int i
 |.inr x=>.str x
def keyOk:Key->Prop
 |.inl _=>True
 |.inr x=>ZY x=Z7
def KL (K:Z5)(a:Addr)(xs:List V):Prop:=∃(o:Obj) (its:Array Value) (n:Nat),K.lookup a=Z9 o/\o.cls=.type "list"/\o.dict=Z8/\o.data=.seq its n/\its.size<=bh/\Vals xs its.toList
abbrev Ad:=Option Addr
def FL (K:Z5)(H:Hp)(a:Addr)(xs:List V):Prop:=(∃o,H a=Z9 (.fN o (.lst xs)))\/KL K a xs
def nw (H:Hp):Ad->Prop
 |some a=>H a=Z8
 |none=>False
section
variable (K:Z5)(H:Hp)(B:Ad->Prop)
mutual
def Rep:V->aw->Prop
 |v,.none=>v=.non
 |v,.bool b=>v=.bl b
 |v,.int i=>v=.int i
 |v,.str x=>v=.str x/\ZY x=Z7
 |v,.tuple ds=>∃a vs,v=.ref a/\bN K H a vs/\aD vs ds
 |v,.list ds=>∃a vs,v=.ref a/\((H a=Z9 (.lst vs)/\B (Z9 a))\/(FL K H a vs/\B Z8))/\aD vs ds
 |v,.dict es=>∃a kvs,v=.ref a/\H a=Z9 (.dK kvs)/\B (Z9 a)/\aS kvs es
def aD:List V->List aw->Prop
 |vs,[]=>vs=[]
 |vs,d::ds=>∃v r,vs=v::r/\Rep v d/\aD r ds
def aS:List (Key×V)->List (aw×aw)->Prop
 |kvs,[]=>kvs=[]
 |kvs,(kd,d)::es=>∃k v r,kvs=(k,v)::r/\kd=kD k/\keyOk k/\Rep v d/\aS r es
end
end
def Fix:HO->Prop
 |.tup _=>True
 |.fN _ (.lst _)=>True
 |.fN _ (.tup _)=>True
 |_=>False
section
variable {K:Z5}{H H':Hp}{B B':Ad->Prop}
theorem FL.keep (b:∀a o,H a=Z9 o->(B (Z9 a)\/Fix o)->H' a=Z9 o)(r:FL K H a c):FL K H' a c:=by
 rcases r with⟨o,r⟩|r
 .exact .inl ⟨o,b a _ r (.inr True.intro)⟩
 .exact .inr r
theorem _root_.L2.bN.keep (b:∀a o,H a=Z9 o->(B (Z9 a)\/Fix o)->H' a=Z9 o)(r:bN K H a c):bN K H' a c:=by
 rcases r with(r|⟨o,r⟩)|r
 .exact .inl (.inl (b a _ r (.inr True.intro)))
 .exact .inl (.inr ⟨o,b a _ r (.inr True.intro)⟩)
 .exact .inr r
mutual
theorem Rep.keep (hH:∀a o,H a=Z9 o->(B (Z9 a)\/Fix o)->H' a=Z9 o)(hB:∀a,B a->B' a):∀{v:V} (d:aw),Rep K H B v d->Rep K H' B' v d
 |v,.none,r=>r
 |v,.bool b,r=>r
 |v,.int i,r=>r
 |v,.str x,r=>r
 |v,.tuple ds,r=>by obtain⟨a,vs,e,h,q⟩:=r;exact⟨a,vs,e,h.keep hH,aD.keep hH hB ds q⟩
 |v,.list ds,r=>by
  obtain⟨a,vs,e,h,q⟩:=r;refine⟨a,vs,e,?_,aD.keep hH hB ds q⟩;rcases h with⟨h,b⟩|h
  .exact .inl ⟨hH a _ h (.inl b),hB _ b⟩
  .exact .inr ⟨FL.keep hH h.1,hB _ h.2⟩
 |v,.dict es,r=>by obtain⟨a,kvs,e,h,b,q⟩:=r;exact⟨a,kvs,e,hH a _ h (.inl b),hB _ b,aS.keep hH hB es q⟩
theorem aD.keep (hH:∀a o,H a=Z9 o->(B (Z9 a)\/Fix o)->H' a=Z9 o)(hB:∀a,B a->B' a):∀{vs:List V} (ds:List aw),aD K H B vs ds->aD K H' B' vs ds
 |vs,[],r=>r
 |vs,d::ds,r=>by obtain⟨v,t,e,h,q⟩:=r;exact⟨v,t,e,Rep.keep hH hB d h,aD.keep hH hB ds q⟩
theorem aS.keep (hH:∀a o,H a=Z9 o->(B (Z9 a)\/Fix o)->H' a=Z9 o)(hB:∀a,B a->B' a):∀{kvs:List (Key×V)} (es:List (aw×aw)),aS K H B kvs es->aS K H' B' kvs es
 |kvs,[],r=>r
 |kvs,(kd,d)::es,r=>by obtain⟨k,v,t,e,e2,ok,h,q⟩:=r;exact⟨k,v,t,e,e2,ok,Rep.keep hH hB d h,aS.keep hH hB es q⟩
end
theorem Rep.same (s:Same H H')(b:∀a,B a->B' a)(r:Rep K H B v d):Rep K H' B' v d:=Rep.keep (λa o e _=>s a o e) b d r
theorem aD.same (s:Same H H')(b:∀a,B a->B' a)(r:aD K H B c ds):aD K H' B' c ds:=aD.keep (λa o e _=>s a o e) b ds r
theorem aS.same (s:Same H H')(b:∀a,B a->B' a)(r:aS K H B c ds):aS K H' B' c ds:=aS.keep (λa o e _=>s a o e) b ds r
theorem Rep.weak (b:∀a,B a->B' a)(r:Rep K H B v d):Rep K H B' v d:=r.same (λ_ _ e=>e) b
theorem aD.weak (b:∀a,B a->B' a)(r:aD K H B v d):aD K H B' v d:=r.same (λ_ _ e=>e) b
mutual
theorem Rep.bD:∀{v:V} (d:aw),aL d=Z7->Rep K H B v d->Rep K H B' v d
 |v,.none,_,r=>r
 |v,.bool b,_,r=>r
 |v,.int i,_,r=>r
 |v,.str x,_,r=>r
 |v,.tuple ds,i,r=>by obtain⟨a,vs,e,h,q⟩:=r;exact⟨a,vs,e,h,aD.bD ds (i) q⟩
 |v,.list ds,i,r=>by cases(show Z6=Z7 from i)
 |v,.dict es,i,r=>by cases(show Z6=Z7 from i)
theorem aD.bD:∀{vs:List V} (ds:List aw),imms ds=Z7->aD K H B vs ds->aD K H B' vs ds
 |vs,[],_,r=>r
 |vs,d::ds,i,r=>by have i:=bn.mp (show(aL d&&imms ds)=Z7 from i);obtain⟨v,t,e,h,q⟩:=r;exact⟨v,t,e,Rep.bD d i.1 h,aD.bD ds i.2 q⟩
end
mutual
theorem Rep.jT (hH:∀a o,H a=Z9 o->Fix o->H' a=Z9 o):∀{v:V} (d:aw),aL d=Z7->Rep K H B v d->Rep K H' B' v d
 |v,.none,_,r=>r
 |v,.bool b,_,r=>r
 |v,.int i,_,r=>r
 |v,.str x,_,r=>r
 |v,.tuple ds,i,r=>by obtain⟨a,vs,e,h,q⟩:=r;exact⟨a,vs,e,h.keep (B:=λ_=>False) (λa o e f=>hH a o e (f.resolve_left id)),aD.jT hH ds (i) q⟩
 |v,.list ds,i,r=>by cases(show Z6=Z7 from i)
 |v,.dict es,i,r=>by cases(show Z6=Z7 from i)
theorem aD.jT (hH:∀a o,H a=Z9 o->Fix o->H' a=Z9 o):∀{vs:List V} (ds:List aw),imms ds=Z7->aD K H B vs ds->aD K H' B' vs ds
 |vs,[],_,r=>r
 |vs,d::ds,i,r=>by have i:=bn.mp (show(aL d&&imms ds)=Z7 from i);obtain⟨v,t,e,h,q⟩:=r;exact⟨v,t,e,Rep.jT hH d i.1 h,aD.jT hH ds i.2 q⟩
end
theorem aD.length:∀{vs:List V} {a:List D},aD K H B vs a->vs.length=a.length
 |vs,[],r=>by have e:vs=[]:=r;subst e;rfl
 |vs,d::a,r=>by obtain⟨v,t,rfl,h,q⟩:=r;rw[bu,bu,q.length]
theorem aD.get:∀{vs:List V} {ds:List D} {i:Nat} {d:D},aD K H B vs ds->ds[i]?=Z9 d->∃v,vs[i]?=Z9 v/\Rep K H B v d
 |vs,[],i,d,r,e=>by simp at e
 |vs,d0::ds,0,d,r,e=>by
  obtain⟨v,t,rfl,h,q⟩:=r;have:d0=d:=by simpa using e
  subst this;exact⟨v,rfl,h⟩
 |vs,d0::ds,i+1,d,r,e=>by obtain⟨v,t,rfl,h,q⟩:=r;obtain⟨u,h1,h2⟩:=q.get (by simpa using e);exact⟨u,by simpa using h1,h2⟩
theorem aD.eY:∀{a:List V} {b:List D} {i:Nat} {v:V},aD K H B a b->a[i]?=Z9 v->∃d,b[i]?=Z9 d/\Rep K H B v d
 |a,[],i,v,r,e=>by have c:a=[]:=r;subst c;simp at e
 |a,d0::b,0,v,r,e=>by
  obtain⟨u,t,rfl,h,q⟩:=r;have:u=v:=by simpa using e
  subst this;exact⟨d0,rfl,h⟩
 |a,d0::b,i+1,v,r,e=>by obtain⟨u,t,rfl,h,q⟩:=r;obtain⟨d,f,g⟩:=q.eY (by simpa using e);exact⟨d,by simpa using f,g⟩
theorem aD.cons {v:V}{d:D}{vs:List V}{ds:List D}(h:Rep K H B v d)(r:aD K H B vs ds):aD K H B (v::vs) (d::ds):=⟨v,vs,rfl,h,r⟩
theorem aD.append:∀{a b:List V} {c es:List D},aD K H B a c->aD K H B b es->aD K H B (a++b) (c++es)
 |a,b,[],es,r,q=>by have e:a=[]:=r;subst e;exact q
 |a,b,d::c,es,r,q=>by obtain⟨v,t,rfl,h,p⟩:=r;exact⟨v,t++b,rfl,h,p.append q⟩
theorem aD.take:∀{a:List V} {b:List D} n,aD K H B a b->aD K H B (a.take n) (b.take n)
 |a,b,0,r=>by rw[List.take_zero];exact rfl
 |a,[],n+1,r=>by have e:a=[]:=r;subst e;exact rfl
 |a,d::b,n+1,r=>by obtain⟨v,t,rfl,h,p⟩:=r;exact⟨v,t.take n,rfl,h,p.take n⟩
theorem aD.drop:∀{a:List V} {b:List D} n,aD K H B a b->aD K H B (a.drop n) (b.drop n)
 |a,b,0,r=>r
 |a,[],n+1,r=>by have e:a=[]:=r;subst e;exact rfl
 |a,d::b,n+1,r=>by obtain⟨v,t,rfl,h,p⟩:=r;exact p.drop n
theorem aD.set (h:Rep K H B v d):∀{a:List V} {b:List D} n,aD K H B a b->aD K H B (a.set n v) (b.set n d)
 |a,[],n,r=>by have e:a=[]:=r;subst e;exact rfl
 |a,d::b,0,r=>by obtain⟨u,t,rfl,_,p⟩:=r;exact⟨_,_,rfl,h,p⟩
 |a,d::b,n+1,r=>by obtain⟨u,t,rfl,h0,p⟩:=r;exact⟨_,_,rfl,h0,p.set h n⟩
mutual
theorem Rep.there:∀{v:V} (d:aw),Rep K H B v d->Rep K H (λa=>B a/\¬nw H a) v d
 |v,.none,r=>r
 |v,.bool b,r=>r
 |v,.int i,r=>r
 |v,.str x,r=>r
 |v,.tuple ds,r=>by obtain⟨a,vs,e,h,q⟩:=r;exact⟨a,vs,e,h,aD.there ds q⟩
 |v,.list ds,r=>by
  obtain⟨a,vs,e,h,q⟩:=r;refine⟨a,vs,e,?_,aD.there ds q⟩;rcases h with⟨h,b⟩|h
  .refine .inl ⟨h,b,λz=>?_⟩;have z':H a=none:=z;rw[h]at z';cases z'
  .exact .inr ⟨h.1,h.2,λz=>z⟩
 |v,.dict es,r=>by obtain⟨a,kvs,e,h,b,q⟩:=r;exact⟨a,kvs,e,h,⟨b,λz=>by have z':H a=none:=z;rw[h]at z';cases z'⟩,aS.there es q⟩
theorem aD.there:∀{vs:List V} (ds:List aw),aD K H B vs ds->aD K H (λa=>B a/\¬nw H a) vs ds
 |vs,[],r=>r
 |vs,d::ds,r=>by obtain⟨v,t,e,h,q⟩:=r;exact⟨v,t,e,Rep.there d h,aD.there ds q⟩
theorem aS.there:∀{kvs:List (Key×V)} (es:List (aw×aw)),aS K H B kvs es->aS K H (λa=>B a/\¬nw H a) kvs es
 |kvs,[],r=>r
 |kvs,(kd,d)::es,r=>by obtain⟨k,v,t,e,e2,ok,h,q⟩:=r;exact⟨k,v,t,e,e2,ok,Rep.there d h,aS.there es q⟩
end
end
structure Fm where
 H0:Hp
 V:Addr->Prop
 O:Addr->Option Nat
 z:Prop
def Bin (F:Fm):Ad->Prop
 |some a=>F.O a=Z8/\F.H0 a=Z8/\F.V a
 |none=>False
def bI (F:Fm):Ad->Prop
 |some a=>F.V a
 |none=>F.z
def eZ (F:Fm):Ad->Prop
 |some a=>F.H0 a≠Z8/\F.V a
 |none=>F.z
def Slot (K:Z5)(F:Fm)(H:Hp)(i:Nat):G->V->D->Prop
 |.fr,v,d=>∃p,v=.ref p/\F.O p=Z9 i/\((∃vs ds,d=.list ds/\H p=Z9 (.lst vs)/\aD K H (Bin F) vs ds)\/(∃kvs es,d=.dict es/\H p=Z9 (.dK kvs)/\aS K H (Bin F) kvs es))
 |.od,v,d=>Rep K H (eZ F) v d
 |.al,v,d=>Rep K H (bI F) v d
 |.nu,v,d=>Rep K H (Bin F) v d
structure StOk (K:Z5)(F:Fm)(H:Hp)(σ:L2.St)(ρ:Rho):Prop where
 ext:Same F.H0 H
 aH:∀a,H a=Z8->F.V a
 own:∀a i,F.O a=Z9 i->F.H0 a=Z8/\F.V a/\((∃xs,H a=Z9 (.lst xs))\/∃kvs,H a=Z9 (.dK kvs))
 len:σ.length=ρ.length
 sl:∀i g d,ρ[i]?=Z9 (Z9 (g,d))->∃v,σ[i]?=Z9 (Z9 v)/\Slot K F H i g v d
def BG (F:Fm)(H:Hp):G->Ad->Prop
 |.fr=>nw H
 |.od=>eZ F
 |.al=>bI F
 |.nu=>λa=>nw H a\/Bin F a
section
variable {K:Z5}{F:Fm}{H H':Hp}{σ:L2.St}{ρ:Rho}
theorem Slot.same (s:Same H H')(h:Slot K F H i g v d):Slot K F H' i g v d:=by
 cases g with
 |fr=>
  obtain⟨p,e,o,h⟩:=h;refine⟨p,e,o,?_⟩;rcases h with⟨a,c,f,j,r⟩|⟨a,c,f,j,r⟩
  .exact .inl ⟨a,c,f,s _ _ j,r.same s λ_ b=>b⟩
  .exact .inr ⟨a,c,f,s _ _ j,r.same s λ_ b=>b⟩
 |od=>exact Rep.same s (λ_ b=>b) h
 |al=>exact Rep.same s (λ_ b=>b) h
 |nu=>exact Rep.same s (λ_ b=>b) h
theorem _root_.L2.Same.none (s:Same H H')(h:H' a=Z8):H a=none:=by
 cases e:H a with
 |none=>rfl
 |some o=>rw[s a o e]at h;cases h
theorem StOk.same (s:Same H H')(h:StOk K F H σ ρ):StOk K F H' σ ρ where
 ext:=λa o e=>s a o (h.ext a o e)
 aH:=λa e=>h.aH a (s.none e)
 own:=λa i e=>by
  obtain⟨c,j,b⟩:=h.own a i e;refine⟨c,j,?_⟩;rcases b with⟨f,b⟩|⟨f,b⟩
  .exact .inl ⟨f,s _ _ b⟩
  .exact .inr ⟨f,s _ _ b⟩
 len:=h.len
 sl:=λi g d e=>by obtain⟨v,c,b⟩:=h.sl i g d e;exact⟨v,c,b.same s⟩
theorem nw.back (s:Same H H')(h:nw H' a):nw H a:=by
 cases a with
 |none=>exact h
 |some a=>exact s.none h
theorem nw.aH (b:∀a,H a=Z8->F.V a)(h:nw H a):bI F a:=by
 cases a with
 |none=>exact h.elim
 |some a=>exact b a h
theorem eZ.aH (h:eZ F a):bI F a:=by
 cases a with
 |none=>exact h
 |some a=>exact h.2
theorem Bin.aH (h:Bin F a):bI F a:=by
 cases a with
 |none=>exact h.elim
 |some a=>exact h.2.2
theorem BG.back (s:Same H H')(h:BG F H' g a):BG F H g a:=by
 cases g with
 |fr=>exact nw.back s h
 |od=>exact h
 |al=>exact h
 |nu=>exact h.elim (λh=>.inl (nw.back s h)) .inr
theorem BG.aH (b:∀a,H a=Z8->F.V a)(h:BG F H g a):bI F a:=by
 cases g with
 |fr=>exact nw.aH b h
 |od=>exact eZ.aH h
 |al=>exact h
 |nu=>exact h.elim (nw.aH b) Bin.aH
theorem Slot.rep (so:∀a i,F.O a=Z9 i->F.V a)(h:Slot K F H i g v d):Rep K H (bI F) v d:=by
 cases g with
 |fr=>
  obtain⟨p,e,o,h⟩:=h;rcases h with⟨c,j,rfl,f,r⟩|⟨c,j,rfl,f,r⟩
  .exact⟨p,c,e,.inl ⟨f,so _ _ o⟩,r.weak λ_ b=>b.aH⟩
  .exact⟨p,c,e,f,so _ _ o,aS.same (λ_ _ e=>e) (λ_ b=>b.aH) r⟩
 |od=>exact Rep.weak (λ_ b=>b.aH) h
 |al=>exact h
 |nu=>exact Rep.weak (λ_ b=>Bin.aH b) h
theorem StOk.iN (h:StOk K F H σ ρ):∀a i,F.O a=Z9 i->F.V a:=λa i e=>(h.own a i e).2.1
theorem StOk.rd (h:StOk K F H σ ρ){i:Nat}(e:z4 ρ[i]?=.ok x):∃v,σ[i]?=Z9 (Z9 v)/\Rep K H (BG F H x.1) v x.2:=by
 cases c:ρ[i]? with
 |none=>rw[c]at e;cases e
 |some o=>
  cases o with
  |none=>rw[c]at e;cases e
  |some gd=>
   obtain⟨g,d⟩:=gd;rw[c]at e;obtain⟨v,j,a⟩:=h.sl i g d c;have k:=(Res.ok.inj e).symm;subst k;refine⟨v,j,?_⟩;by_cases f:aL d=Z7
   .show Rep K H (BG F H (if aL d=Z7 then _ else _)) v d;exact Rep.bD d f (a.rep h.iN)
   .show Rep K H (BG F H (if aL d=Z7 then _ else _)) v d;rw[yb f];cases g with
    |fr=>exact a.rep h.iN
    |od=>exact a
    |al=>exact a
    |nu=>exact Rep.weak (λ_ b=>.inr b) a
end
structure Gm where
 N:List Str
 sc:Scope
 blk:Bool:=Z6
 free:List Str
 fns:List (Str×Nat)
 cst:List Str
 cm:Bool:=Z7
 xc:Option (Str×Str):=Z8
 sub:List (Str×Str×Bool):=[]
 rs:List Str:=[]
 fG:List (Str×Str):=[]
 kp:List Str:=[]
section
variable (Γ:Gm)
def fX (i:Nat)(x:Str):Bool:=(Γ.N[i]?==Z9 x)&&(Γ.sc.names.lookup x==Z9 .local||Γ.sc.names.lookup x==Z9 .cell||Γ.sc.names.lookup x==Z9 .free)&& !(x==("__debug__":Str))&& !(x==("__classdict__":Str))
def lG (x:Str):Bool:=(Γ.sc.names.lookup x==Z9 .globalImplicit)&& !(x==("__debug__":Str))
def bX (x:Str):Bool:=lG Γ x&&Γ.free.contains x&& !(x==("__name__":Str))
def jU (i:Nat)(x:Str):Bool:=(Γ.N[i]?==Z9 x)&&(Γ.sc.names.lookup x==Z9 .local||(!Γ.blk&&Γ.sc.names.lookup x==Z9 .cell))&&(!Γ.kp.contains x&&Γ.xc.all λp=>!(p.1==x))
def xc0:Bool:=Γ.xc.isNone&&Γ.kp.isEmpty
end
def tgIx:Tg->List Nat
 |.nm i=>[i]
 |.tp is=>is
def z6 (scope sc:Scope):Scope:={scope with names:=scope.names.map λ(n,k)=>if(k==.free&&sc.kind==.function&&sc.names.lookup n==Z9 .cell)then(n,.cell)else(n,k)}
def plainT:Expr->Bool
 |.UnaryOp .Not _ _=>Z6
 |.BoolOp _ _ _=>Z6
 |.IfExp _ _ _ _=>Z6
 |.Compare _ _ _ _=>Z6
 |_=>Z7
def HC:Expr->Bool
 |.Compare _ _ _ _=>Z7
 |_=>Z6
def z2y:Expr->Bool
 |.Slice _ _ _ _=>Z6
 |_=>Z7
def z28:Expr->Bool
 |.Call (.Name _ _) [] [] _=>Z6
 |_=>Z7
def pM:Expr->Bool
 |.Set _ _ _=>Z6
 |_=>Z7
def isTup:Expr->Bool
 |.Tuple _ _ _=>Z7
 |_=>Z6
def CG:Expr->Option Str
 |.Name x _=>Z9 x
 |_=>Z8
def gL:Expr->Option Const
 |.Constant v _ _=>Z9 v
 |_=>Z8
def oA:Expr->Option (Expr×t5×Expr)
 |.BinOp l o r _=>Z9 (l,o,r)
 |_=>Z8
def z7:Expr->Option (UnaryOp×Expr)
 |.UnaryOp o x _=>Z9 (o,x)
 |_=>Z8
def rQ:Expr->Option (Expr×List CmpOp×List Expr)
 |.Compare l o r _=>Z9 (l,o,r)
 |_=>Z8
def uI:Expr->Option (BoolOp×List Expr×Pos)
 |.BoolOp o xs p=>Z9 (o,xs,p)
 |_=>Z8
def xQ:Expr->Option (Expr×Expr×Expr)
 |.IfExp t x y _=>Z9 (t,x,y)
 |_=>Z8
def oB:Expr->Option (List Expr)
 |.Tuple es _ _=>Z9 es
 |_=>Z8
def oE:Expr->Option (List Expr)
 |.List es _=>Z9 es
 |_=>Z8
def CH:Expr->Option (List (Option Expr)×List Expr)
 |.Dict k v _=>Z9 (k,v)
 |_=>Z8
def iO:Expr->Option (Expr×Expr)
 |.Subscript x i _=>Z9 (x,i)
 |_=>Z8
def xR:Expr->Option (Option Expr×Option Expr×Option Expr)
 |.Slice l h s _=>Z9 (l,h,s)
 |_=>Z8
def CJ:Expr->Option (Expr×List Expr×List wc×Pos)
 |.Call f es k p=>Z9 (f,es,k,p)
 |_=>Z8
def z8:Expr->Option (Expr×Str×Pos)
 |.Attribute x n p=>Z9 (x,n,p)
 |_=>Z8
def CK:Expr->Option (Expr×List Comprehension×Scope)
 |.ListComp el gs s _=>Z9 (el,gs,s)
 |_=>Z8
def aX {α:Type}:List α->Option α
 | [x]=>Z9 x
 |_=>Z8
def oF {α:Type}:List α->Option (α×α)
 | [x,y]=>Z9 (x,y)
 |_=>Z8
def gO (e:Expr):Option (Str×List Expr):=(CJ e).bind λv=>if v.2.2.1.isEmpty then(CG v.1).map λx=>(x,v.2.1)else Z8
def rR (e:Expr):Option (Expr×Str×List Expr×Bool):=(CJ e).bind λv=>if v.2.2.1.isEmpty then(z8 v.1).map λu=>(u.1,u.2.1,v.2.1,u.2.2.endLine==v.2.2.2.line)else Z8
def uJ (f g:Expr->Bool)(o:BoolOp)(p:Pos):List Expr->Bool
 |x::y::r=>f x&&(if r.isEmpty then g y else g (.BoolOp o (y::r) p))
 |_=>Z6
def xS (n:Bool)(f:Expr->Bool):List Expr->Bool
 | []=>n
 |t::r=>r.isEmpty&&f t
def xT:C->Bool
 |.nil=>Z7
 |_=>Z6
def iY (f:Str->Bool)(e:Expr):Bool:=(CG e).any f
def CL (Γ:Gm):List Nat->List Expr->Bool
 | [],es=>es.isEmpty
 |i::is,es=>match es with|e::es=>iY (jU Γ i) e&&CL Γ is es| []=>Z6
def oG (Γ:Gm):Tg->Expr->Bool
 |.nm i,e=>iY (jU Γ i) e
 |.tp is,e=>Γ.cm&&(oB e).any (CL Γ is)
def z9:t5->Bool
 |.Add|.Sub|.Mult|.FloorDiv|.Mod|.Pow=>Z7
 |_=>Z6
def z5q:CmpOp->Bool
 |.Is|.IsNot|.LtE=>Z6
 |_=>Z7
def CM (T:String):Bool:=tysB.contains T
def tyB (Γ:Gm)(T:String)(t:Expr):Bool:=iY (λx=>(x==Str.ofString T)&&bX Γ x&&CM T) t
def rS:List String:=["tuple","sum","all","any","dict"]
def OB:Tg->Bool
 |.nm _=>Z7
 |.tp _=>Z6
def isNm:Expr->Bool
 |.Name _ _=>Z7
 |_=>Z6
def Ab:C->Expr->Bool
 |.enum _,e=>isTup e
 |.zip _ _,e=>isTup e||isNm e
 |_,_=>Z7
mutual
def chkE (Γ:Gm):C->Expr->Bool
 |.var i,e=>iY (fX Γ i) e
 |.non,e=>decide (gL e=Z9 .none)
 |.bl b,e=>decide (gL e=Z9 (.bool b))
 |.int i,e=>decide (gL e=Z9 (.int i))
 |.str x,e=>decide (gL e=Z9 (.str x))&&ZY x
 |.glob _ _,_=>Z6
 |.bin op a b,e=>(oA e).any λv=>decide (op=v.2.1)&&z9 op&&chkE Γ a v.1&&chkE Γ b v.2.2
 |.cmp op a b,e=>(rQ e).any λv=>decide (v.2.1=[op])&&(aX v.2.2).any λr=>z5q op&& !(gh op r)&&chkE Γ a v.1&&chkE Γ b r
 |.and a b,e=>(uI e).any λv=>decide (v.1=.And)&&uJ (λx=>chkE Γ a x) (λx=>chkE Γ b x) .And v.2.2 v.2.1
 |.or a b,e=>(uI e).any λv=>decide (v.1=.Or)&&uJ (λx=>chkE Γ a x) (λx=>chkE Γ b x) .Or v.2.2 v.2.1
 |.not a,e=>(z7 e).any λv=>decide (v.1=.Not)&&chkE Γ a v.2
 |.jO c a b,e=>(xQ e).any λv=>eB Γ c v.1&&chkE Γ a v.2.1&&chkE Γ b v.2.2
 |.tup xs,e=>(oB e).any λes=>decide (es.length<=1000)&&dF Γ xs es
 |.lst xs,e=>(oE e).any λes=>decide (es.length<=1000)&&dF Γ xs es
 |.rep xs b,e=>(oA e).any λv=>decide (v.2.1=.Mult)&&(oE v.1).any λes=>decide (es.length<=1000)&&dF Γ xs es&&chkE Γ b v.2.2
 |.eA,e=>(CH e).any λv=>v.1.isEmpty&&v.2.isEmpty
 |.ix a b,e=>(iO e).any λv=>z2y v.2&&chkE Γ a v.1&&chkE Γ b v.2
 |.sl a lo hi,e=>(iO e).any λv=>(xR v.2).any λs=>s.2.2.isNone&&chkE Γ a v.1&&oH Γ lo s.1&&oH Γ hi s.2.1
 |.call k f args,e=>(gO e).any λv=>(Γ.cm&&(v.1==f))&&lG Γ v.1&&(Γ.fns[k]?==Z9 (f,v.2.length))&&dF Γ args v.2&& !v.2.isEmpty
 |.bi f args,e=>(gO e).any λv=>(v.1==Str.ofString f)&&bX Γ v.1&&((["len","max","int"].contains f)&&(Γ.cm||f=="int"))&&dF Γ args v.2&& !v.2.isEmpty
 |.gB f a,e=>(gO e).any λv=>(v.1==Str.ofString f)&&bX Γ v.1&&(rS.contains f&&Γ.cm)&&(aX v.2).any λy=>!isStar y&&rT Γ a y
 |.isT a ts,e=>(gO e).any λv=>(v.1==("isinstance":Str))&&bX Γ v.1&&(oF v.2).any λy=>!isStar y.1&&chkE Γ a y.1&&(aX ts).any λT=>tyB Γ T y.2
 |.mt m o args,e=>(rR e).any λv=>((v.2.1==Str.ofString m)&& ["get"].contains m&&z28 v.1&&v.2.2.2&&decide (v.2.2.1.length<20))&&chkE Γ o v.1&&dF Γ args v.2.2.1&& !v.2.2.1.isEmpty
 |.comp nt js N' tg it cond elt,e=>(CK e).any λv=>(aX v.2.1).any λg=>let CN:Gm:={Γ with N:=N',sc:=z6 v.2.2 Γ.sc,blk:=Z7,xc:=Z8,kp:=[]}
  ((Γ.cm&&(g.is_async==0))&&(tgIx tg).all (λi=>decide (i<nt))&&nH Γ.N Γ.sc v.2.2 N' nt js&&pM g.iter&&decide N'.Nodup)&&(oG CN tg g.target&&Ab it g.target)&&iP Γ it g.iter&&xS (xT cond) (λt=>eB CN cond t) g.ifs&&chkE CN elt v.1
 |.sortI i,e=>(gO e).any λv=>(Γ.cm&&(v.1==("sorted":Str)))&&bX Γ v.1&&(aX v.2).any λy=>(rR y).any λm=>iY (fX Γ i) m.1&&(m.2.1==("items":Str))&&m.2.2.1.isEmpty&&m.2.2.2
 |.jP b x,e=>(gO e).any λv=>(v.1==("isinstance":Str))&&bX Γ v.1&&(oF v.2).any λy=>Γ.xc.any λz=>iY (λn=>(n==z.1)&&(Γ.sc.names.lookup n==Z9 .local)&& !(n==("__debug__":Str))&& !(n==("__classdict__":Str))) y.1&&iY (λC=>(C==x)&&lG Γ C&&Γ.sub.contains (z.2,x,b)) y.2
 |.iM _,_=>Z6
 |.enum _,_=>Z6
 |.zip _ _,_=>Z6
 |.tv _,_=>Z6
 |.nil,_=>Z6
 |.cons _ _,_=>Z6
def eB (Γ:Gm):C->Expr->Bool
 |.and a b,e=>(uI e).any λv=>decide (v.1=.And)&&uJ (λx=>eB Γ a x) (λx=>eB Γ b x) .And v.2.2 v.2.1
 |.or a b,e=>(uI e).any λv=>decide (v.1=.Or)&&uJ (λx=>eB Γ a x) (λx=>eB Γ b x) .Or v.2.2 v.2.1
 |.not a,e=>(z7 e).any λv=>decide (v.1=.Not)&&eB Γ a v.2
 |.tv a,e=>(plainT e||HC e)&&chkE Γ a e
 |_,_=>Z6
def dF (Γ:Gm):C->List Expr->Bool
 |.nil,es=>es.isEmpty
 |.cons a r,es=>match es with|e::es=>!isStar e&&chkE Γ a e&&dF Γ r es|_=>Z6
 |_,_=>Z6
def oH (Γ:Gm):C->Option Expr->Bool
 |.nil,e=>e.isNone
 |.tv a,e=>e.any λe=>chkE Γ a e
 |_,_=>Z6
def iP (Γ:Gm):C->Expr->Bool
 |.iM args,e=>(gO e).any λv=>(v.1==("range":Str))&&bX Γ v.1&&dF Γ args v.2&&(!v.2.isEmpty&&decide (v.2.length<=1))
 |.tv a,e=>pM e&&chkE Γ a e
 |.enum a,e=>(gO e).any λv=>(v.1==("enumerate":Str))&&bX Γ v.1&&(aX v.2).any λy=>!isStar y&&chkE Γ a y
 |.zip a b,e=>(gO e).any λv=>(v.1==("zip":Str))&&bX Γ v.1&&(oF v.2).any λy=>(!isStar y.1&& !isStar y.2)&&chkE Γ a y.1&&chkE Γ b y.2
 |_,_=>Z6
def rT (Γ:Gm):C->Expr->Bool
 |.tv a,e=>chkE Γ a e
 |_,_=>Z6
end
def jV:C->Bool
 |_=>Z6
def xW (Γ:Gm)(it:C)(tg ie:Expr):Bool:=Ab it tg&&iP Γ it ie
def uK:Stmt->Option (List Expr×Expr)
 |.Assign t v _=>Z9 (t,v)
 |_=>Z8
def uL:Stmt->Option Expr
 |.Expr v _=>Z9 v
 |_=>Z8
def CO:Stmt->Option (Option Expr)
 |.Return v _=>Z9 v
 |_=>Z8
def CP:Stmt->Option (Expr×List Stmt×List Stmt)
 |.If t A B _=>Z9 (t,A,B)
 |_=>Z8
def xX:Stmt->Option (Expr×Expr×List Stmt×List Stmt)
 |.For t i B o _=>Z9 (t,i,B,o)
 |_=>Z8
def xY:Stmt->Option (Str×List Expr)
 |.Raise (Z9 c) Z8 _=>gO c
 |_=>Z8
def CQ (e:Expr):Bool:=(gL e).any λk=>match k with|.str x=>ZY x|_=>Z6
def CS:ExceptHandler->Option (Str×Str×List Stmt)
 |.ExceptHandler (Z9 (.Name x _)) (Z9 n) b _=>Z9 (x,n,b)
 |_=>Z8
mutual
def oI (Γ:Gm):S->Stmt->Bool
 |.bad,_=>Z7
 |.asg t e,s=>(uK s).any λu=>(aX u.1).any λx=>oG Γ t x&& !jV e&&(OB t||(!z1j u.2&& !isTup u.2))&&chkE Γ e u.2
 |.dW i k v,s=>(uK s).any λu=>(aX u.1).any λx=>(iO x).any λw=>iY (fX Γ i) w.1&&z2y w.2&& !z1j u.2&&chkE Γ k w.2&&chkE Γ v u.2
 |.mut m i args,s=>(uL s).any λc=>(rR c).any λv=>(iY (fX Γ i) v.1&&(v.2.1==Str.ofString m)&& ["append"].contains m&&v.2.2.2&&decide (v.2.2.1.length<20))&& !v.2.2.1.isEmpty&&dF Γ args v.2.2.1
 |.drop e,s=>(uL s).any λv=>!z1j v&&chkE Γ e v
 |.ret e,s=>(CO s).any λo=>o.any λv=>chkE Γ e v
 |.ifS c a b,s=>(CP s).any λv=>eB Γ c v.1&&chkL Γ a v.2.1&&chkL Γ b v.2.2
 |.bC t it b,s=>Γ.cm&&(xX s).any λv=>oG Γ t v.1&&xW Γ it v.1 v.2.1&&chkL Γ b v.2.2.1&&v.2.2.2.isEmpty
 |.nO c,s=>(xY s).any λv=>(v.1==c)&&lG Γ c&&Γ.rs.contains c&&Γ.cm&&(aX v.2).any CQ
 |.nil,_=>Z6
 |.seq _ _,_=>Z6
def chkL (Γ:Gm):S->List Stmt->Bool
 |.nil,l=>l.isEmpty
 |.seq a b,l=>match l with|s::r=>oI Γ a s&&chkL Γ b r|_=>Z6
 |_,_=>Z6
end
def tD (K:Z5)(f:Rho->Res GD):TE:=λσ H Q=>∃ρ F x,StOk K F H σ ρ/\f ρ=.ok x/\∀v H',Same H H'->Rep K H' (BG F H x.1) v x.2->Q v H'
def dR (K:Z5)(f:Rho->Res Bool):TT:=λσ H Q=>∃ρ F b,StOk K F H σ ρ/\f ρ=.ok b/\∀H',Same H H'->Q b H'
def tDO (K:Z5)(f:Rho->Res (Option Int)):TO:=λσ H Q=>∃ρ F b,StOk K F H σ ρ/\f ρ=.ok b/\∀H',Same H H'->Q b H'
def dY (K:Z5)(F:Fm)(H H':Hp):List V->List GD->Prop
 |vs,[]=>vs=[]
 |vs,x::xs=>∃v r,vs=v::r/\Rep K H' (BG F H x.1) v x.2/\dY K F H H' r xs
def tDA (K:Z5)(f:Rho->Res (List GD)):TA:=λσ H Q=>∃ρ F xs,StOk K F H σ ρ/\f ρ=.ok xs/\∀vs H',Same H H'->dY K F H H' vs xs->Q vs H'
theorem _root_.L2.PE.imp (h:PE X e t)(i:∀σ H Q,t' σ H Q->t σ H Q):PE X e t':=λpins s σ H Q I q=>h pins s σ H Q I (i σ H Q q)
theorem _root_.L2.PT.imp (h:PT X e t)(i:∀σ H Q,t' σ H Q->t σ H Q):PT X e t':=λpins s σ H Q I q=>h pins s σ H Q I (i σ H Q q)
theorem _root_.L2.PW.imp (h:PW X e t)(i:∀σ H Q,t' σ H Q->t σ H Q):PW X e t':=λwh pins s σ H Q I q=>h wh pins s σ H Q I (i σ H Q q)
theorem _root_.L2.PA.imp (h:PA X e t)(i:∀σ H Q,t' σ H Q->t σ H Q):PA X e t':=λpos pins s σ H Q I q=>h pos pins s σ H Q I (i σ H Q q)
theorem _root_.L2.PO.imp (h:PO X e t)(i:∀σ H Q,t' σ H Q->t σ H Q):PO X e t':=λpins s σ H Q I q=>h pins s σ H Q I (i σ H Q q)
theorem _root_.L2.PS.imp (h:PS X e t)(i:∀D σ H,t' D σ H->t D σ H):PS X e t':=λpins s σ H D I q=>h pins s σ H D I (i D σ H q)
theorem _root_.L2.PSs.imp (h:PSs X e t)(i:∀D σ H,t' D σ H->t D σ H):PSs X e t':=λpins s σ H D I q=>h pins s σ H D I (i D σ H q)
section
variable {K:Z5}{F:Fm}{H H1 H':Hp}
theorem dY.back:∀{a:List V} {c:List GD},Same H H1->dY K F H1 H' a c->dY K F H H' a c
 |a,[],_,r=>r
 |a,x::c,s,r=>by obtain⟨v,t,e,h,q⟩:=r;exact⟨v,t,e,h.weak λ_ b=>b.back s,q.back s⟩
theorem dY.jW:∀{b:List V} {c:List GD},(∀x∈c,∀a,BG F H x.1 a->B a)->dY K F H H' b c->aD K H' B b (c.map (·.2))
 |b,[],_,r=>r
 |b,x::c,d,r=>by obtain⟨v,t,e,h,q⟩:=r;exact⟨v,t,e,h.weak (d x bb),q.jW λy f=>d y (ay _ f)⟩
theorem dY.iZ (b:∀a,H a=Z8->F.V a)(r:dY K F H H' c d):aD K H' (bI F) c (d.map (·.2)):=r.jW λ_ _ _ h=>h.aH b
theorem uM (f:∀a,H a=Z8->F.V a)(c:x∈d)(h:BG F H x.1 a):BG F H (cB d) a:=by
 unfold cB;by_cases e:(d.all λx=>x.1==.fr)=Z7
 .rw[ya e];have:=(cx.mp e) x c;have b:x.1=.fr:=by simpa using this
  rw[b]at h;exact h
 .rw[yb e];split
  .rename_i g;have:=(cx.mp g) x c;rcases gz.mp this with b|b
   .rw[eq_of_beq b]at h;exact .inl h
   .rw[eq_of_beq b]at h;exact h
  .exact h.aH f
theorem CT (b:∀a,H a=Z8->F.V a)(s:Same H H1)(h:nw H1 a):BG F H (cB c) a:=by
 unfold cB;by_cases e:(c.all λx=>x.1==.fr)=Z7
 .rw[ya e];exact nw.back s h
 .rw[yb e];split
  .exact .inl (nw.back s h)
  .exact(nw.back s h).aH b
theorem pN (r:Rep K H' B v d)(h:∀a,B a->BG F H g a):Rep K H' (BG F H (gJ d g)) v d:=by
 unfold gJ;by_cases e:aL d=Z7
 .rw[ya e];exact Rep.bD d e r
 .rw[yb e];exact r.weak h
end
def oJ (K:Z5)(m:D->D->Res D):R2:=λx y H Q=>∃Bx By dx dy d,Rep K H Bx x dx/\Rep K H By y dy/\m dx dy=.ok d/\∀w H',Same H H'->Rep K H' (λa=>nw H a\/Bx a\/By a) w d->Q w H'
def oK (X:Cx)(f:Value->Value->Sem Value)(m:D->D->Res D):Prop:=OpR X f (oJ X.K m)
def oM (K:Z5)(m:D->D->Res D):R2:=λx y H Q=>∃Bx By dx dy d,Rep K H Bx x dx/\Rep K H By y dy/\m dx dy=.ok d/\∀w H',Same H H'->Rep K H' (λa=>nw H a\/Bx a\/By a) w d->(∀ds,d=.list ds->imms ds=Z7->Rep K H' (nw H) w d)->Q w H'
def CU (X:Cx)(f:Value->Value->Sem Value)(m:D->D->Res D):Prop:=OpR X f (oM X.K m)
theorem _root_.L2.OpR.imp (h:OpR X f r)(i:∀x y H Q,b x y H Q->r x y H Q):OpR X f b:=λa s c H x y v u Q I d e q=>h a s c H x y v u Q I d e (i x y H Q q)
def z7o (K:Z5)(m:List D->Res D):List V->Hp->VK->Prop:=λxs H Q=>∃B ds d,aD K H B xs ds/\m ds=.ok d/\∀w H',Same H H'->Rep K H' (λa=>nw H a\/B a) w d->Q w H'
theorem _root_.L2.CallR.imp (h:CallR X f r)(i:∀x H Q,b x H Q->r x H Q):CallR X f b:=λa s c H x v Q I d q=>h a s c H x v Q I d (i x H Q q)
theorem OC (a:ZY x=Z7)(b:ZY y=Z7):ZY (x++y)=true:=by
 unfold ZY at *
 show(x.cps++y.cps).all _=Z7;rw[Array.all_append,a,b];rfl
theorem Ac:ZY x=Z7↔∀c∈x.cps.toList,c<0x110000:=by unfold ZY;rw[<-Array.all_toList];rw[cx];exact⟨λh c a=>by simpa using h c a,λh c a=>by simpa using h c a⟩
theorem OD (a:ZY x=Z7)(hc:c∈x.cps.toList):ZY ⟨#[c]⟩=true:=
 Ac.mpr λd hd=>by
  have e:d=c:=by simpa using hd
  rw[e];exact Ac.mp a c hc
theorem jX (h:n<=aZ):n<=bh:=bp h (by rw[dw];unfold aZ;decide)
theorem _root_.L2.bN.rel {K:Z5}(s:Same H b)(h:bN K H a c):bN K b a c:=h.keep (B:=λ_=>True) λa o e _=>s a o e
section
variable {X:Cx}
def OE (K:Z5):R2:=λx y H Q=>∃l b xs zs,x=.ref l/\y=.ref b/\SqL K H l xs/\SqL K H b zs/\xs.length+zs.length<=bh/\∀p,H p=Z8->Q (.ref p) (upd H p (.lst (xs++zs)))
theorem OF:OpR X (i3 .Add) (OE X.K):=by
 rintro k s M H x y v u Q I w z ⟨l,b,N,O,rfl,rfl,A,B,m,q⟩
 cases w;cases z;obtain⟨c,o,C,_⟩:=I.list A;obtain⟨a,p,D,_⟩:=I.list B;obtain⟨⟨E,dd,r,sl⟩,n,ho,G,_,hd⟩:=C;obtain⟨⟨t,f,g,h⟩,J,d,i,_,j⟩:=D;subst G hd i j;have e:c.toArray.size+a.toArray.size<=bh:=by rw[cb,cb,<-o.length,<-p.length];exact m
 refine se ⟨_,ho,rfl⟩ ⟨_,d,rfl⟩ noFill_list_add seq_list_add PySem.F.slot_list_add PySem.F.entry_list_add (PySem.F.args_list_add_2 _ _) (list_addW l b c.toArray a.toArray n J dd f sl h e) ⟨ho,d,?_⟩;have L:c.toArray++a.toArray=(c++a).toArray:=by simp
 rw[L];exact⟨.ref _,_,I.lnew (o.append p) (bq▸m),rfl,q _ I.fresh⟩
def OG (K:Z5):R2:=λx y H Q=>∃a b ys,x=.ref a/\y=.ref b/\bN K H a []/\bN K H b ys/\Q (.ref b) H
theorem OH:OpR X (i3 .Add) (OG X.K):=by
 rintro i s E H x y v u Q I m o ⟨l,b,G,rfl,rfl,p,r,q⟩
 cases m;cases o;obtain⟨t,w,z,_⟩:=I.tuple p;obtain⟨a,J,A,_⟩:=I.tuple r;cases w;obtain⟨⟨B,dd,j,sl⟩,ho,C,n,hd⟩:=z;obtain⟨⟨k,d,e,f⟩,c,g,D,h⟩:=A;subst C hd g h;refine se ⟨_,ho,rfl⟩ ⟨_,c,rfl⟩ qw ux PySem.F.slot_tuple_add PySem.F.entry_tuple_add (PySem.F.args_tuple_add_2 _ _) (tuple_addW0 l b _ a.toArray n D dd d sl f (by simp)) ⟨ho,c,?_⟩;exact⟨.ref b,H,I,rfl,q⟩
variable {K:Z5}{H:Hp}{B:Ad->Prop}{v:V}
theorem mH (r:Rep K H B v (.list c)):∃a b,v=.ref a/\SqL K H a b/\aD K H B b c:=by
 obtain⟨a,b,e,h,q⟩:=r;refine⟨a,b,e,?_,q⟩;rcases h with⟨h,_⟩|⟨h|h,_⟩
 .exact .inl (.inl h)
 .exact .inl (.inr h)
 .exact .inr h
theorem rU (c:H p=Z8)(r:aD K H B b d)(e:∀a,B a->B' a)(f:B' (Z9 p)):Rep K (upd H p (.lst b)) B' (.ref p) (.list d):=⟨p,b,rfl,.inl ⟨aT,f⟩,r.same (Same.upd c) e⟩
theorem Ae (c:H p=Z8)(r:aD K H B b d)(e:∀a,B a->f a):Rep K (upd H p (.tup b)) f (.ref p) (.tuple d):=⟨p,b,rfl,.inl (.inl aT),r.same (Same.upd c) e⟩
theorem fA {b:Type}{a:b}(h:(Res.no:Res b)=.ok a):False:=by cases h
theorem OI:CU X (i3 .Add) (cK .Add):=by
 refine OpR.imp ((Oi.or OF).or OH) λx y H Q h=>?_;obtain⟨u,v,w,A,d,k,l,e,q⟩:=h;cases w<;>try (exact(fA e).elim)
 all_goals cases A<;>try (exact(fA e).elim)
 case int.int i j=>cases e;have r:=k;have s:=l;subst r s;exact .inl (.inl (Ot (q _ H (Same.refl H) rfl λm z=>by cases z)))
 case str.str i j=>
  have r:=k.1;have s:=l.1;subst r s;have e:(if i.length+j.length<=aZ then Res.ok (ZX (i++j))else Res.no)=Res.ok d:=e;split at e
  .rename_i hl;cases e;exact .inl (.inl (Ou (jX hl) (q _ H (Same.refl H) ⟨rfl,OC k.2 l.2⟩ λm z=>by cases z)))
  .cases e
 case list.list xs ys=>
  have e:(if xs.length+ys.length<=aZ then Res.ok (ZW (xs++ys))else Res.no)=Res.ok d:=e;split at e
  .rename_i hl;cases e;obtain⟨a,t,rfl,n,c⟩:=mH k;obtain⟨b,ws,rfl,o,f⟩:=mH l;refine .inl (.inr ⟨a,b,t,ws,rfl,rfl,n,o,jX (by rw[c.length,f.length];exact hl),λp g=>q _ _ (Same.upd g) ?_ ?_⟩)
   .exact rU g (aD.append (c.weak λ_ z=>.inr (.inl z)) (f.weak λ_ z=>.inr (.inr z))) (λ_ z=>z) (.inl g)
   .intro m z B;cases z;exact rU g (aD.bD _ B (aD.append (c.weak (B':=λa=>nw H a\/u a\/v a) λ_ z=>.inr (.inl z)) (f.weak λ_ z=>.inr (.inr z)))) (λ_ z=>z) g
  .cases e
 case tuple.tuple xs ys=>
  have e:(if xs.length+ys.length<=aZ then Res.ok (PyData.tuple (xs++ys))else Res.no)=Res.ok d:=e;split at e
  .rename_i hl;cases e;obtain⟨a,t,rfl,n,c⟩:=k;obtain⟨b,ws,rfl,o,f⟩:=l;cases t with
   |nil=>
    have:xs=[]:=by have:=c.length;exact io.mp this.symm
    subst this;exact .inr ⟨a,b,ws,rfl,rfl,n,o,q _ H (Same.refl H) ⟨b,ws,rfl,o,f.weak λ_ z=>.inr (.inr z)⟩ λm z=>by cases z⟩
   |cons C D=>
    refine .inl (.inl (.inr (.inr (.inr ⟨a,b,C::D,ws,rfl,rfl,n,o,by simp,jX (by rw[c.length,f.length];exact hl),λz=>?_,λz p g=>q _ _ (Same.upd g) ?_ λm z=>by cases z⟩))))
    .subst z;have:ys=[]:=by have:=f.length;exact io.mp this.symm
     subst this;rw[d6]at q;exact q _ H (Same.refl H) ⟨a,_,rfl,n,c.weak λ_ z=>.inr (.inl z)⟩ λm z=>by cases z
    .exact Ae g (aD.append (c.weak λ_ z=>.inr (.inl z)) (f.weak λ_ z=>.inr (.inr z))) (λ_ z=>z)
  .cases e
theorem xZ {gd:Int->Int->D}(h:OpR X f (rI b g))(a:∀i j H B,Rep X.K H B (g i j) (gd i j))(hm:∀dx dy d,m dx dy=.ok d->∃i j,dx=.int i/\dy=.int j/\b i j/\d=gd i j):CU X f m:=by refine OpR.imp h λx y H Q h=>?_;obtain⟨n,o,dx,dy,d,k,l,e,q⟩:=h;obtain⟨i,j,rfl,rfl,c,rfl⟩:=hm dx dy d e;exact⟨i,j,k,l,c,q _ H (Same.refl H) (a i j _ _) λ_ _ _=>a i j _ _⟩
theorem OJ (h:OpR X f (kY g)):OpR X f (rI (λ_ _=>True) g):=OpR.imp h λx y H Q ⟨i,j,a,b,_,q⟩=>⟨i,j,a,b,q⟩
theorem OK:OpR X (i3 .FloorDiv) (rI (λ_ j=>0<j/\j<2 ^ 200) λi j=>.int (i/j)):=opI λi j _ _ _ _ _ hc q=>by
 refine floordiv_int (by omega) (by rw[Int.fdiv_eq_ediv_of_nonneg i (by omega)];exact q) (.inl (PyProof.noPylong_of_log2 ?_));have a:j.natAbs<2 ^ 200:=by omega
 have b:=(Nat.log2_lt (by omega)).mpr a;omega
theorem HD (a:t5)(h:z9 a=Z7):CU X (i3 a) (cK a):=by
 cases a<;>try (cases h;done)
 case Add=>exact OI
 case Sub=>
  refine xZ (OJ Na) (gd:=λi j=>.int (i-j)) (λ_ _ _ _=>rfl) λdx dy d e=>?_;cases dx<;>try (exact(fA e).elim)
  cases dy<;>try (exact(fA e).elim)
  cases e;simp_all
 case Mult=>
  refine xZ Nb (gd:=λi j=>.int (i*j)) (λ_ _ _ _=>rfl) λdx dy d e=>?_;cases dx<;>try (exact(fA e).elim)
  cases dy<;>try (exact(fA e).elim)
  rename_i i j;have e:(if(-(2 ^ 64)<i/\i<2 ^ 64)\/(-(2 ^ 64)<j/\j<2 ^ 64)then Res.ok (ZV (i*j))else Res.no)=Res.ok d:=e;split at e
  .rename_i hc;cases e;exact⟨_,_,rfl,rfl,hc,rfl⟩
  .cases e
 case FloorDiv=>
  refine xZ OK (gd:=λi j=>.int (i/j)) (λ_ _ _ _=>rfl) λdx dy d e=>?_;cases dx<;>try (exact(fA e).elim)
  cases dy<;>try (exact(fA e).elim)
  rename_i i j;have e:(if 0<j/\j<2 ^ 200 then Res.ok (ZV (i/j))else Res.no)=Res.ok d:=e;split at e
  .rename_i hc;cases e;simp_all
  .cases e
 case Mod=>
  refine xZ Nc (gd:=λi j=>.int (i%j)) (λ_ _ _ _=>rfl) λdx dy d e=>?_;cases dx<;>try (exact(fA e).elim)
  cases dy<;>try (exact(fA e).elim)
  rename_i i j;have e:(if 0<j then Res.ok (ZV (i%j))else Res.no)=Res.ok d:=e;split at e
  .rename_i hc;cases e;simp_all
  .cases e
 case Pow=>
  refine xZ Nd (gd:=λi j=>.int (i ^ j.toNat)) (λ_ _ _ _=>rfl) λdx dy d e=>?_;cases dx<;>try (exact(fA e).elim)
  cases dy<;>try (exact(fA e).elim)
  rename_i i j;have e:(if 0<=j/\j<=1000/\i.natAbs<2 ^ 64 then Res.ok (ZV (i ^ j.toNat))else Res.no)=Res.ok d:=e;split at e
  .rename_i hc;cases e;exact⟨_,_,rfl,rfl,⟨hc.1,by omega,hc.2.2⟩,rfl⟩
  .cases e
end
section
variable {X:Cx}{pins:List (Addr×Obj)}{σ:L2.St}{H:Hp}{s:aq}{B:Ad->Prop}
mutual
theorem Rep.reads (I:Inv X pins σ H s):∀{v:V} {u:Value} (d:aw) (n:Nat),aR n d=Z7->Rep X.K H B v d->RelV v u->(∃as,Reads s.heap u d as)/\d.canLay0=Z7/\d.depth<=n
 |v,u,.none,n,_,r,q=>by have e:v=.non:=r;subst e;cases q;exact⟨⟨[],.none⟩,by simp only[ZU],cy _⟩
 |v,u,.bool b,n,_,r,q=>by have e:v=.bl b:=r;subst e;cases q;exact⟨⟨[],.bool b⟩,by simp only[ZU],cy _⟩
 |v,u,.int b,n,_,r,q=>by have e:v=.int b:=r;subst e;obtain⟨t,rfl⟩:=q;exact⟨⟨[],.int b t⟩,by simp only[ZU],cy _⟩
 |v,u,.str b,n,_,r,q=>by obtain⟨e,ok⟩:v=.str b/\_:=r;subst e;obtain⟨t,rfl⟩:=q;exact⟨⟨[],.str b t⟩,by simp only[ZU];exact ok,cy _⟩
 |v,u,.tuple ds,0,h,r,q=>by cases h
 |v,u,.list ds,0,h,r,q=>by cases h
 |v,u,.tuple ds,n+1,h,r,q=>by obtain⟨a,vs,e,h1,r1⟩:=r;subst e;cases q;obtain⟨its,rv,⟨o,ho,hc,k,hd⟩,_⟩:=I.tuple h1;obtain⟨⟨as,ra⟩,c,dp⟩:=aD.reads I ds n (h) r1 rv;refine⟨⟨as,.tuple ho hc hd (by simpa using ra)⟩,by simp only[ZU];exact c,?_⟩;simp only[PyData.depth];omega
 |v,u,.list ds,n+1,h,r,q=>by obtain⟨a,vs,e,h1,r1⟩:=mH r;subst e;cases q;obtain⟨its,rv,⟨o,k,ho,hc,_,hd⟩,_⟩:=I.list h1;obtain⟨⟨as,ra⟩,c,dp⟩:=aD.reads I ds n (h) r1 rv;refine⟨⟨a::as,.list ho hc hd (by simpa using ra)⟩,by simp only[ZU];exact c,?_⟩;simp only[PyData.depth];omega
 |v,u,.dict es,n,h,r,q=>by cases n<;>cases h
theorem aD.reads (I:Inv X pins σ H s):∀{vs:List V} {us:List Value} (ds:List aw) (n:Nat),eO n ds=Z7->aD X.K H B vs ds->Vals vs us->(∃as,ReadsAll s.heap us ds as)/\PyData.canLayAll0 ds=Z7/\PyData.depthAll ds<=n
 |vs,us,[],n,_,r,q=>by have e:vs=[]:=r;subst e;cases q;exact⟨⟨[],.nil⟩,by simp only[PyData.canLayAll0],cy _⟩
 |vs,us,d::ds,n,h,r,q=>by
  obtain⟨v,t,e,h1,r1⟩:=r;subst e;rw[eO,cq]at h;cases q with
  |cons q1 q2=>obtain⟨⟨as,ra⟩,c,dp⟩:=Rep.reads I d n h.1 h1 q1;obtain⟨⟨bs,rb⟩,c2,OL⟩:=aD.reads I ds n h.2 r1 q2;refine⟨⟨as++bs,.cons ra rb⟩,by simp only[PyData.canLayAll0,c,c2,Bool.and_self],?_⟩;simp only[PyData.depthAll];exact Nat.max_le.mpr ⟨dp,OL⟩
end
end
section
variable {X:Cx}
def mB (m:D->D->Res Bool):D->D->Res D:=λx y=>m x y>>=λb=>.ok (.bool b)
theorem yi (h:mB m x y=.ok d):∃b,m x y=.ok b/\d=.bool b:=by obtain⟨b,a,c⟩:=Res.aA h;exact⟨b,a,(Res.ok.inj c).symm⟩
theorem CV (hu:X.A.units+64<cLine):oK X (ge .Eq) (mB (cmpD .Eq)):=by
 rintro a s n H x y v u Q I c f ⟨o,p,dx,dy,d,g,h,e,q⟩
 obtain⟨b,i,rfl⟩:=yi e;have e:=i;have e:(if(aR 40 dx&&aR 40 dy)=Z7 then Res.ok (dV dx dy)else Res.no)=Res.ok b:=e;split at e
 .rename_i hs;cases e;rw[cq]at hs;obtain⟨⟨as,j⟩,k,r⟩:=Rep.reads I dx 40 hs.1 g c;obtain⟨⟨bs,l⟩,m,t⟩:=Rep.reads I dy 40 hs.2 h f;exact SeqAt.compareEq_reads j l k m (by omega) ⟨.bl _,H,I,rfl,q _ H (Same.refl H) rfl⟩
 .cases e
theorem CW (hu:X.A.units+64<cLine):oK X (ge .NotEq) (mB (cmpD .NotEq)):=by
 rintro a s n H x y v u Q I c f ⟨o,p,dx,dy,d,g,h,e,q⟩
 obtain⟨b,i,rfl⟩:=yi e;have e:=i;have e:(if(aR 40 dx&&aR 40 dy)=Z7 then Res.ok (!dV dx dy)else Res.no)=Res.ok b:=e;split at e
 .rename_i hs;cases e;rw[cq]at hs;obtain⟨⟨as,j⟩,k,r⟩:=Rep.reads I dx 40 hs.1 g c;obtain⟨⟨bs,l⟩,m,t⟩:=Rep.reads I dy 40 hs.2 h f;exact SeqAt.compareNe_reads j l k m (by omega) ⟨.bl _,H,I,rfl,q _ H (Same.refl H) rfl⟩
 .cases e
theorem zja (h:OpR X (ge a) r)(f:∀i j b H Q,cmpD a (.int i) (.int j)=.ok b->Q (.bl b) H->r (.int i) (.int j) H Q)
  (hm:∀dx dy b,cmpD a dx dy=.ok b->∃i j,dx=.int i/\dy=.int j):oK X (ge a) (mB (cmpD a)):=by
 refine OpR.imp h λx y H Q h=>?_;obtain⟨l,m,dx,dy,d,g,k,e,q⟩:=h;obtain⟨b,c,rfl⟩:=yi e;obtain⟨i,j,rfl,rfl⟩:=hm dx dy b c;subst g k;exact f i j b H Q c (q _ H (Same.refl H) rfl)
theorem CY:oK X (ge .Lt) (mB (cmpD .Lt)):=zja Cy (λi j b H Q e q=>by cases e;exact Ov q) λa c b e=>by cases a<;>first|exact(fA e).elim|(cases c<;>first|exact⟨_,_,rfl,rfl⟩|exact(fA e).elim)
theorem CZ:oK X (ge .Gt) (mB (cmpD .Gt)):=zja Cz (λi j b H Q e q=>by cases e;exact Ow q) λa c b e=>by cases a<;>first|exact(fA e).elim|(cases c<;>first|exact⟨_,_,rfl,rfl⟩|exact(fA e).elim)
theorem C1:oK X (ge .GtE) (mB (cmpD .GtE)):=zja Nh (λi j b H Q e q=>by cases e;exact⟨i,j,rfl,rfl,q⟩) λa c b e=>by cases a<;>first|exact(fA e).elim|(cases c<;>first|exact⟨_,_,rfl,rfl⟩|exact(fA e).elim)
theorem aS.val {K:Z5}(k:Key):∀{kvs:List (Key×V)} {es:bF},aS K H B kvs es->match eP es (kD k)with|some d=>∃v,cJ kvs k=Z9 v/\Rep K H B v d|none=>cJ kvs k=Z8
 |kvs,[],r=>by have e:=r;subst e;exact rfl
 |kvs,(kd,d)::es,r=>by
  obtain⟨a,v,t,e,c,ok,h,q⟩:=r;subst e c;by_cases z:a=k
  .subst z
   have b:eP ((kD a,d)::es) (kD a)=Z9 d:=by
    have:eqK (kD a) (kD a)=true:=by cases a<;>simp[kD,eqK]
    unfold eP;rw[List.find?_cons_of_pos (by exact this)];rfl
   rw[b];exact⟨v,zV rfl,h⟩
  .have f:eqK (kD a) (kD k)=false:=by
    rw[qg];intro w;apply z;cases a<;>cases k<;>simp[kD,eqK]at w<;>rw[w]
   have b:eP ((kD a,d)::es) (kD k)=eP es (kD k):=by unfold eP;rw[List.find?_cons_of_neg (f▸gp)]
   rw[b,zW z];exact aS.val k q
theorem yj {K:Z5}(h:jM d=Z7)(r:Rep K H B v d):∃k,d=kD k/\v=kV k/\keyOk k:=by
 cases d<;>try (cases h;done)
 case int i=>exact⟨.inl i,rfl,r,True.intro⟩
 case str x=>exact⟨.inr x,rfl,r.1,r.2⟩
theorem zhx (hu:X.A.units+64<cLine)(ng:Bool)(I:Inv X h B H s)(m:RelV x v)(n:RelV y u)
  (o:Rep X.K H L x dx) (p:Rep X.K H M y dy) (e:inD dx dy=.ok b) (q:Q (.bl (if ng then !b else b)) H):
  wpAny (model X.prog X.w) X.A (ge (if ng then .NotIn else .In) v u) (EP X h B Q) X.xe s:=by
 cases dy<;>try (cases e;done)
 case list xs=>
  change(if(aR 40 dx&&eO 40 xs)=Z7 then Res.ok (xs.any λy=>dV y dx)else .no)=_ at e;split at e
  .rename_i hs;cases e;rw[cq]at hs;obtain⟨⟨as,i⟩,j,C⟩:=Rep.reads I dx 40 hs.1 o m;obtain⟨⟨bs,l⟩,r,D⟩:=Rep.reads I (.list xs) 41 hs.2 p n;have c:PyData.canLayAll0 xs=true:=by simpa only[ZU]using r
   cases ng
   .exact SeqAt.in_list_reads l i c j (by omega) ⟨.bl _,H,I,rfl,q⟩
   .exact SeqAt.notIn_list_reads l i c j (by omega) ⟨.bl _,H,I,rfl,q⟩
  .cases e
 case tuple xs=>
  change(if(aR 40 dx&&eO 40 xs)=Z7 then Res.ok (xs.any λy=>dV y dx)else .no)=_ at e;split at e
  .rename_i hs;cases e;rw[cq]at hs;obtain⟨⟨as,i⟩,j,C⟩:=Rep.reads I dx 40 hs.1 o m;obtain⟨⟨bs,l⟩,r,D⟩:=Rep.reads I (.tuple xs) 41 hs.2 p n;have c:PyData.canLayAll0 xs=true:=by simpa only[ZU]using r
   cases ng
   .exact SeqAt.in_tuple_reads l i c j (by omega) ⟨.bl _,H,I,rfl,q⟩
   .exact SeqAt.notIn_tuple_reads l i c j (by omega) ⟨.bl _,H,I,rfl,q⟩
  .cases e
 case dict es=>
  change(if jM dx=Z7 then Res.ok (eP es dx).isSome else .no)=_ at e;split at e
  .rename_i E;cases e;obtain⟨k,rfl,rfl,_⟩:=yj E o;obtain⟨a,kvs,rfl,F,_,G⟩:=p;cases n;have f:=G.val k;have g:DGet H a (kV k) (cJ kvs k):=DGet.k F
   have z:(cJ kvs k).isSome=(eP es (kD k)).isSome:=by
    cases e:eP es (kD k)with
    |none=>rw[e]at f;rw[show cJ kvs k=Z8 from f];rfl
    |some d=>rw[e]at f;obtain⟨v,f,_⟩:=f;rw[f];rfl
   cases ng
   .exact d_in (by omega) I g m λJ t=>⟨.bl _,H,t,rfl,by rw[z];exact q⟩
   .exact zl7 (by omega) I g m λJ t=>⟨.bl _,H,t,rfl,by rw[z];exact q⟩
  .cases e
theorem C3 (hu:X.A.units+64<cLine):oK X (ge .In) (mB (cmpD .In)):=by
 rintro a s j H x y v u Q I c f ⟨k,l,dx,dy,d,g,h,e,q⟩
 obtain⟨b,i,rfl⟩:=yi e;exact zhx hu Z6 I c f g h i (q _ H (Same.refl H) rfl)
theorem OM (hu:X.A.units+64<cLine):oK X (ge .NotIn) (mB (cmpD .NotIn)):=by
 rintro a s l H x y v u Q I c f ⟨m,n,dx,dy,d,g,h,e,q⟩
 obtain⟨b,i,rfl⟩:=yi e;obtain⟨o,j,k⟩:=Res.aA i;cases k;exact zhx hu Z7 I c f g h j (q _ H (Same.refl H) rfl)
theorem Af (hu:X.A.units+64<cLine)(op:CmpOp)(h:z5q op=Z7):oK X (ge op) (mB (cmpD op)):=by
 cases op<;>try (cases h;done)
 .exact CV hu
 .exact CW hu
 .exact CY
 .exact CZ
 .exact C1
 .exact C3 hu
 .exact OM hu
end
section
variable {X:Cx}{a b c e:Expr}{es:List Expr}{fa fb fc:Rho->Res GD}{pos:Pos}
theorem Ag (h:PE X e (tC v))(r:∀H B,Rep X.K H B v d):PE X e (tD X.K λ_=>.ok (.fr,d)):=PE.imp h λa H Q ⟨b,F,x,so,e,q⟩=>by cases e;exact q v H (Same.refl H) (r H _)
theorem ON {i:Nat}(hN:X.N[i]?=Z9 x)(c:Vis X.env.scope x)(hd:XX x)(a:(x==("__classdict__":Str))=Z6):PE X (.Name x pos) (tD X.K λb=>z4 b[i]?):=PE.imp (qQ hN c hd a) λg H Q ⟨b,F,x,so,e,q⟩=>by obtain⟨v,d,f⟩:=so.rd e;exact⟨v,d,q v H (Same.refl H) f⟩
theorem HE {K:Z5}(r:Rep K H' B v d)(h:∀a,B a->BG F H g a)(n:∀b,d=.list b->imms b=Z7->Rep K H' (nw H) v d):Rep K H' (BG F H (gN d g)) v d:=by
 cases d with
 |list b=>
  show Rep K H' (BG F H (if imms b=Z7 then .fr else g)) v _;split
  .rename_i c;exact n b rfl c
  .exact r.weak h
 |_=>exact pN r h
theorem OO (k:z9 i=Z7)(l:PE X a (tD X.K fa))(m:PE X b (tD X.K fb)):PE X (.BinOp a i b pos) (tD X.K λc=>fa c>>=λx=>fb c>>=λy=>cK i x.2 y.2>>=λd=>.ok (gN d (cB [x,y]),d)):=
 PE.imp (B6 (HD i k) l m) λE H Q ⟨c,F,z,so,e,q⟩=>by
  obtain⟨x,n,e⟩:=Res.aA e;obtain⟨y,o,e⟩:=Res.aA e;obtain⟨d,p,e⟩:=Res.aA e;cases e;refine⟨c,F,x,so,n,λv G f r=>⟨c,F,y,so.same f,o,λu I g s=>⟨_,_,x.2,y.2,d,r.same g λ_ z=>z,s,p,λw t A j B=>q w t ((f.trans g).trans A) (HE j (λa h=>?_) λC z D=>(B C z D).weak λ_ z=>nw.back (f.trans g) z)⟩⟩⟩;rcases h with h|h|h
  .exact CT so.aH (f.trans g) h
  .exact uM so.aH (by simp) h
  .exact uM so.aH (by simp) (h.back f)
theorem HF (h:tD X.K (λa=>fa a>>=λx=>fb a>>=λy=>cmpD f x.2 y.2>>=λb=>.ok (.fr,.bool b)) j H Q):iJ (oJ X.K (mB (cmpD f))) (tD X.K fa) (tD X.K fb) j H Q:=by obtain⟨a,F,z,so,e,q⟩:=h;obtain⟨x,k,e⟩:=Res.aA e;obtain⟨y,l,e⟩:=Res.aA e;obtain⟨d,m,e⟩:=Res.aA e;cases e;exact⟨a,F,x,so,k,λv s g n=>⟨a,F,y,so.same g,l,λu t i o=>⟨_,_,x.2,y.2,.bool d,n.same i λ_ z=>z,o,by show(cmpD f x.2 y.2>>=λb=>Res.ok (ZT b))=_;rw[m];rfl,λw p r c=>q w p ((g.trans i).trans r) c⟩⟩⟩
theorem zto (hu:X.A.units+64<cLine)(d:z5q op=Z7)(hm:gh op b=Z6)(e:PE X a (tD X.K fa))(f:PE X b (tD X.K fb)):
  PE X (.Compare a [op] [b] pos) (tD X.K λc=>fa c>>=λx=>fb c>>=λy=>cmpD op x.2 y.2>>=λb=>.ok (.fr,.bool b)):=
 PE.imp (GZ (Af hu op d) e f hm) λg H Q h=>HF h
theorem OP (i:∀a H Q,tD X.K f a H Q->t a H Q)(j:∀b x,f b=.ok x->∃c,x.2=.bool c)(a:L2.St)(H:Hp)(Q:Bool->Hp->Prop)(h:dR X.K (λb=>f b>>=λx=>iW x.2) a H Q):wM t a H Q:=by obtain⟨b,F,c,so,e,q⟩:=h;obtain⟨x,d,e⟩:=Res.aA e;obtain⟨k,g⟩:=j b x d;rw[g]at e;cases e;refine i a H _ ⟨b,F,x,so,d,λv l s r=>?_⟩;rw[g]at r;exact⟨k,r,q l s⟩
theorem OQ (e:(fa ρ>>=λx=>fb ρ>>=λy=>cmpD op x.2 y.2>>=λb=>Res.ok ((.fr,.bool b):GD))=.ok x):∃c,x.2=.bool c:=by obtain⟨x,e1,e⟩:=Res.aA e;obtain⟨y,e2,e⟩:=Res.aA e;obtain⟨d,e3,e⟩:=Res.aA e;cases e;exact⟨d,rfl⟩
theorem zu2 (hu:X.A.units+64<cLine)(d:z5q op=Z7)(hm:gh op b=Z6)(f:PE X a (tD X.K fa))(g:PE X b (tD X.K fb)):
  PT X (.Compare a [op] [b] pos) (dR X.K λc=>(fa c>>=λx=>fb c>>=λy=>cmpD op x.2 y.2>>=λb=>Res.ok ((.fr,.bool b):GD))>>=λx=>iW x.2):=
 PT.imp (G0 (Af hu op d) f g hm) (OP (λi H Q h=>HF h) λc x e=>OQ e)
def C4 (fa fb:Rho->Res GD):Rho->Res GD:=λρ=>fa ρ>>=λx=>match x.2 with|.bool c=>if c then fb ρ else .ok (.fr,.bool Z6)|_=>.no
def OR (fa fb:Rho->Res GD):Rho->Res GD:=λρ=>fa ρ>>=λx=>match x.2 with|.bool c=>if c then .ok (.fr,.bool Z7)else fb ρ|_=>.no
theorem Ah (c:Same H g)(so:StOk X.K F H h d)(e:f d=.ok x)(q:∀v a,Same H a->Rep X.K a (BG F H x.1) v x.2->Q v a):tD X.K f h g Q:=⟨d,F,x,so.same c,e,λv a s r=>q v a (c.trans s) (r.weak λ_ b=>b.back c)⟩
theorem HG {rest:List Expr}(h:PE X a (tD X.K fa))(i:PE X (.BoolOp .And (b::rest) pos) (tD X.K fb)):PE X (.BoolOp .And (a::b::rest) pos) (tD X.K (C4 fa fb)):=
 PE.imp (BQ h i) λn H Q ⟨j,F,z,so,e,q⟩=>by
  obtain⟨x,k,e⟩:=Res.aA e;refine⟨j,F,x,so,k,λv l f m=>?_⟩;obtain⟨g,d⟩:=x;cases d<;>try (cases e;done)
  rename_i c;refine⟨c,m,?_⟩;cases c with
  |true=>exact jK (Ah f so e q)
  |false=>cases e;exact jJ (q _ l f rfl)
theorem yk {rest:List Expr}(h:PE X a (tD X.K fa))(i:PE X (.BoolOp .Or (b::rest) pos) (tD X.K fb)):PE X (.BoolOp .Or (a::b::rest) pos) (tD X.K (OR fa fb)):=
 PE.imp (MY h i) λn H Q ⟨j,F,z,so,e,q⟩=>by
  obtain⟨x,k,e⟩:=Res.aA e;refine⟨j,F,x,so,k,λv l f m=>?_⟩;obtain⟨g,d⟩:=x;cases d<;>try (cases e;done)
  rename_i c;refine⟨c,m,?_⟩;cases c with
  |false=>exact jJ (Ah f so e q)
  |true=>cases e;exact jK (q _ l f rfl)
theorem HH {K:Z5}(r:Rep K H B v d)(e:iW d=.ok k):kZ K v H k:=by
 cases d with
 |none=>cases e;have c:v=.non:=r;subst c;exact rfl
 |bool b=>cases e;have c:v=.bl b:=r;subst c;exact rfl
 |int b=>cases e;have c:v=.int b:=r;subst c;show(!decide (b=0))=(b != 0);rw[bne,ni]
 |str b=>
  have c:=r.1;subst c;simp only[iW]at e;split at e
  .rename_i j;cases e;refine⟨jX j,?_⟩;rw[bne,ni]
   congr 1
   rw[decide_eq_decide];omega
  .cases e
 |tuple g=>cases e;obtain⟨a,f,c,h,q⟩:=r;subst c;refine .inr (.inl ⟨f,h,?_⟩);show(!g.isEmpty)=!f.isEmpty;have:=q.length;cases f<;>cases g<;>simp at this ⊢
 |list g=>cases e;obtain⟨a,f,c,h,q⟩:=mH r;subst c;refine .inl ⟨f,h,?_⟩;show(!g.isEmpty)=!f.isEmpty;have:=q.length;cases f<;>cases g<;>simp at this ⊢
 |dict es=>
  cases e;obtain⟨a,kvs,c,h,_,q⟩:=r;subst c;refine .inr (.inr ⟨kvs,h,?_⟩);cases es with
  |nil=>have i:kvs=[]:=q;subst i;rfl
  |cons l m=>obtain⟨k,v,t,i,_⟩:=q;subst i;rfl
theorem OS (m:PE X a (tD X.K fa)):PE X (.UnaryOp .Not a pos) (tD X.K λh=>fa h>>=λx=>iW x.2>>=λc=>.ok (.fr,.bool (!c))):=by
 rintro d s l H Q I ⟨h,F,z,so,e,q⟩
 obtain⟨x,n,e⟩:=Res.aA e;obtain⟨k,o,e⟩:=Res.aA e;cases e;refine UnaryOp_ (aI (m d s l H (λv f=>Same H f/\Rep X.K f (BG F H x.1) v x.2) I ⟨h,F,x,so,n,λv f i j=>⟨i,j⟩⟩) λv i p=>?_);obtain⟨y,f,r,t,u,j⟩:=p;exact not_of (aI (G2 d i l f y v (λb g=>b=k/\g=f) r t ⟨k,HH j o,rfl,rfl⟩) λb w ⟨g,A,B,C⟩=>by subst B C;exact⟨.bl _,g,A,rfl,q _ g u rfl⟩)
theorem OT (c:PE X e (tD X.K fa))(d:∀a,xl e X.env a=(do let v <-a;standAt e.pos;x8 [v] (truthy v))):PT X e (dR X.K λb=>fa b>>=λx=>iW x.2):=PT.imp (z8u c d) λj H Q ⟨b,F,k,so,e,q⟩=>by obtain⟨x,f,e⟩:=Res.aA e;exact⟨b,F,x,so,f,λv g h i=>⟨k,HH i e,q g h⟩⟩
section
variable {ta tb:Rho->Res Bool}{rest:List Expr}
theorem HI (b:Same H H1)(so:StOk X.K F H σ ρ)(e:f ρ=.ok x)(q:∀a,Same H a->Q x a):dR X.K f σ H1 Q:=⟨ρ,F,x,so.same b,e,λa s=>q a (b.trans s)⟩
theorem w_and (f:PT X a (dR X.K g))(h:PW X (.BoolOp .And (b::rest) pos) (dR X.K i)):PW X (.BoolOp .And (a::b::rest) pos) (dR X.K λd=>g d>>=λc=>if c then i d else .ok Z6):=
 PW.imp (MW f h) λm H Q ⟨d,F,k,so,e,q⟩=>by
  obtain⟨x,j,e⟩:=Res.aA e;refine⟨d,F,x,so,j,λn l=>?_⟩;cases x with
  |true=>exact jK (HI l so e q)
  |false=>cases e;simp_all
theorem w_or (f:PT X a (dR X.K g))(h:PW X (.BoolOp .Or (b::rest) pos) (dR X.K i)):PW X (.BoolOp .Or (a::b::rest) pos) (dR X.K λd=>g d>>=λc=>if c then .ok Z7 else i d):=
 PW.imp (MX f h) λm H Q ⟨d,F,k,so,e,q⟩=>by
  obtain⟨x,j,e⟩:=Res.aA e;refine⟨d,F,x,so,j,λn l=>?_⟩;cases x with
  |false=>exact jJ (HI l so e q)
  |true=>cases e;simp_all
theorem rV (d:PT X a (dR X.K f)):PT X (.UnaryOp .Not a pos) (dR X.K λb=>f b>>=λc=>.ok (!c)):=PT.imp (GP d) λj H Q ⟨b,F,k,so,e,q⟩=>by obtain⟨x,g,e⟩:=Res.aA e;cases e;exact⟨b,F,x,so,g,λh i=>q h i⟩
theorem OU (hc:PT X c (dR X.K g))(h:PE X a (tD X.K fa))(i:PE X b (tD X.K fb)):PE X (.IfExp c a b pos) (tD X.K λd=>g d>>=λk=>if k then fa d else fb d):=
 PE.imp (M0 hc h i) λl H Q ⟨d,F,z,so,e,q⟩=>by
  obtain⟨x,j,e⟩:=Res.aA e;refine⟨d,F,x,so,j,λm f=>?_⟩;cases x with
  |true=>exact jK (Ah f so e q)
  |false=>exact jJ (Ah f so e q)
end
theorem HJ:PA X [] (tDA X.K λ_=>.ok []):=PA.imp hU λa H Q ⟨b,F,z,so,e,q⟩=>by cases e;exact q [] H (Same.refl H) rfl
theorem C5 (hs:isStar e=Z6)(f:PE X e (tD X.K fa))(hr:PA X es (tDA X.K fs)):PA X (e::es) (tDA X.K λa=>fa a>>=λx=>fs a>>=λb=>.ok (x::b)):=PA.imp (cV f hr hs) λl H Q ⟨a,F,z,so,e,q⟩=>by obtain⟨x,g,e⟩:=Res.aA e;obtain⟨b,h,e⟩:=Res.aA e;cases e;refine⟨a,F,x,so,g,λv m c i=>⟨a,F,b,so.same c,h,λj k d rs=>q _ k (c.trans d) ?_⟩⟩;exact⟨v,j,rfl,i.same d λ_ z=>z,rs.back c⟩
theorem OV {i}(h:PA X es (tDA X.K fs))(j:∀b d,fs b=.ok d->d.length<=bh):PE X (.Tuple es i pos) (tD X.K λb=>fs b>>=λc=>.ok (gJ (.tuple (c.map (·.2))) (cB c),.tuple (c.map (·.2)))):=PE.imp (G3 h) λm H Q ⟨b,F,z,so,e,q⟩=>by obtain⟨c,f,e⟩:=Res.aA e;cases e;refine⟨b,F,c,so,f,λn o k rs=>?_⟩;have r:=rs.jW λx l a h=>uM so.aH l h;refine⟨by rw[r.length,ae];exact j b c f,λp g=>q _ _ (k.trans (Same.upd g)) (pN (Ae g r λ_ z=>z) λ_ z=>z)⟩
theorem OW (h:PA X es (tDA X.K fs))(j:∀b f,fs b=.ok f->f.length<=bh):PE X (.List es pos) (tD X.K λb=>fs b>>=λc=>.ok (cB c,.list (c.map (·.2)))):=PE.imp (B8 h) λl H Q ⟨b,F,z,so,e,q⟩=>by obtain⟨c,g,e⟩:=Res.aA e;cases e;refine⟨b,F,c,so,g,λm n i rs=>?_⟩;have r:=rs.jW λx k a h=>uM so.aH k h;refine⟨by rw[r.length,ae];exact j b c g,λp d=>q _ _ (i.trans (Same.upd d)) (rU d r (λ_ z=>z) (CT so.aH i d))⟩
theorem OX:PE X (.Dict [] [] pos) (tD X.K λ_=>.ok (.fr,.dict [])):=PE.imp He λb H Q ⟨c,F,z,so,e,q⟩=>by cases e;intro p a;exact q _ _ (Same.upd a) ⟨p,[],rfl,aT,a,rfl⟩
end
theorem OY {b:Type}(a:List b)(i:Int):L2.cR a i=Mi.cR a i:=rfl
theorem OZ (n d:Nat)(o:Option Int):HT.aU n d o=Mi.aU n d o:=by cases o<;>rfl
theorem aD.cut {K:Z5}(a b:Option Int)(r:aD K H B c d):aD K H B (Mi.cut c a b) (Mi.cut d a b):=by unfold Mi.cut;rw[r.length];exact(r.drop _).take _
theorem aD.cR {K:Z5}(r:aD K H B c b)(e:Mi.cR b i=Z9 d):∃v,L2.cR c i=Z9 v/\Rep K H B v d:=by
 unfold Mi.cR at e;cases a:Mi.iV b.length i with
 |none=>rw[a]at e;cases e
 |some j=>rw[a]at e;obtain⟨v,f,g⟩:=r.get e;refine⟨v,?_,g⟩;rw[OY];unfold Mi.cR;rw[r.length,a];exact f
section
variable {X:Cx}{a b c e:Expr}{es:List Expr}{fa fb fc:Rho->Res GD}{pos:Pos}
theorem O0 (hu:X.A.units+64<cLine):kN X (λx y H Q=>∃a v,x=.ref a/\DGet H a y (Z9 v)/\Q v H):=by intro b c e s k H x y v u Q I f i h hs;obtain⟨a,z,rfl,g,q⟩:=h;cases f;exact tail_any (Ny I g) PySem.F.slot_dict_getitem.lookup (ze3 (by omega) I g i λl m j d=>⟨z,H,j,d,q⟩) hs
def lH (K:Z5):R2:=λx y H Q=>∃B B' dx dy d,Rep K H B x dx/\Rep K H B' y dy/\eR dx dy=.ok d/\∀w,Rep K H B w d->Q w H
theorem HK (hu:X.A.units+64<cLine):kN X (lH X.K):=by
 intro f g l s G H x y v u Q I J L h hs;refine(Oj.or (O0 hu)) f g l s G H x y v u Q I J L ?_ hs;obtain⟨B,R,dx,dy,d,m,r,e,q⟩:=h;cases dx<;>try (cases e;done)
 case list xs=>
  cases dy<;>try (cases e;done)
  rename_i i;subst r;obtain⟨a,t,rfl,n,C⟩:=mH m;change Res.eE (Mi.cR xs i)=_ at e;cases b:Mi.cR xs i with
  |none=>rw[b]at e;cases e
  |some D=>rw[b]at e;cases e;obtain⟨w,o,p⟩:=C.cR b;exact .inl (.inl ⟨a,t,i,w,rfl,rfl,n,o,q w p⟩)
 case tuple xs=>
  cases dy<;>try (cases e;done)
  rename_i i;subst r;obtain⟨a,t,rfl,n,C⟩:=m;change Res.eE (Mi.cR xs i)=_ at e;cases b:Mi.cR xs i with
  |none=>rw[b]at e;cases e
  |some D=>rw[b]at e;cases e;obtain⟨w,o,p⟩:=C.cR b;exact .inl (.inr (.inl ⟨a,t,i,w,rfl,rfl,n,o,q w p⟩))
 case str z=>
  cases dy<;>try (cases e;done)
  rename_i i;have M:=m.1;subst M r;change(if z.length<=aZ then Res.eE ((Mi.cR z.cps.toList i).map λc=>ZX ⟨#[c]⟩)else .no)=_ at e;split at e
  .rename_i N;cases b:Mi.cR z.cps.toList i with
   |none=>rw[b]at e;cases e
   |some c=>
    rw[b]at e;cases e
    have hc:c∈z.cps.toList:=by
     unfold Mi.cR at b;cases E:Mi.iV z.cps.toList.length i with
     |none=>rw[E]at b;cases b
     |some j=>rw[E]at b;exact bt b
    exact .inl (.inr (.inr ⟨z,i,c,rfl,rfl,jX N,b,q _ ⟨rfl,OD m.2 hc⟩⟩))
  .cases e
 case dict es=>
  change(if jM _=Z7 then Res.eE (eP es _)else Res.no)=_ at e;split at e
  .rename_i O;obtain⟨k,rfl,rfl,_⟩:=yj O r;obtain⟨a,kvs,rfl,n,_,P⟩:=m;have F:=P.val k;cases b:eP es (kD k)with
   |none=>rw[b]at e;cases e
   |some D=>rw[b]at e F;cases e;obtain⟨w,o,p⟩:=F;exact .inr ⟨a,w,rfl,by rw[<-o];exact DGet.k n,q w p⟩
  .cases e
theorem C6 (h:z2y i=Z7):Hk i:=λo v=>by cases i<;>first|rfl|cases h
theorem d_ix (hu:X.A.units+64<cLine)(hs:z2y i=Z7)(h:PE X a (tD X.K fa))(j:PE X i (tD X.K k)):
  PE X (.Subscript a i pos) (tD X.K λb=>fa b>>=λx=>k b>>=λy=>eR x.2 y.2>>=λd=>.ok (gJ d x.1,d)):=
 PE.imp (Cc (HK hu) h j (C6 hs)) λs H Q ⟨b,F,z,so,e,q⟩=>by obtain⟨x,l,e⟩:=Res.aA e;obtain⟨y,m,e⟩:=Res.aA e;obtain⟨d,n,e⟩:=Res.aA e;cases e;exact⟨b,F,x,so,l,λv t f o=>⟨b,F,y,so.same f,m,λu p g r=>⟨_,_,x.2,y.2,d,o.same g λ_ z=>z,r,n,λw c=>q w p (f.trans g) (pN c λ_ z=>z)⟩⟩⟩
theorem O1 (h:ZY z=Z7)(a b:Option Int):ZY (rK z a b)=true:=
 Ac.mpr λc hc=>Ac.mp h c (by
  have:c∈Mi.cut z.cps.toList a b:=by simpa[rK]using hc
  exact List.mem_of_mem_drop (List.mem_of_mem_take this))
theorem HL (a b:Option Int)(n:Nat):i8 a b 1 n=sliceRange ((Mi.aU n 0 a:Nat):Int) ((Mi.aU n n b:Nat):Int) 1:=by
 delta i8
 simp
 congr 1
 .cases a with
  |none=>rfl
  |some v=>
   simp only[Mi.aU];by_cases h:v<0
   .simp only[ya h];omega
   .simp only[yb h];omega
 .cases b with
  |none=>rfl
  |some v=>
   simp only[Mi.aU];by_cases h:v<0
   .simp only[ya h];omega
   .simp only[yb h];omega
theorem O2 (n d:Nat)(hd:d<=n)(o:Option Int):Mi.aU n d o<=n:=by rw[<-OZ];exact HT.rE n d hd o
theorem O3 (z:Str)(a b:Option Int):Txt.slice z a b=rK z a b:=by
 have hn:z.cps.toList.length=z.length:=by simp[Str.length]
 have e:(i8 a b 1 z.length).filterMap (z.cps[·]?)=Mi.cut z.cps.toList a b:=by rw[HL,tz,pick_run];unfold Mi.cut;rw[hn]
 have f:(i8 a b 1 z.length).length=Mi.aU z.length z.length b-Mi.aU z.length 0 a:=by rw[HL,tz,ae,fz]
 unfold Txt.slice;split
 .rename_i hc;simp at hc;have g:=O2 z.length z.length (ai _) b
  have c:Mi.cut z.cps.toList a b=z.cps.toList:=by
   unfold Mi.cut;rw[hn];by_cases h0:Mi.aU z.length 0 a=0
   .rw[h0,List.drop_zero,fj (by grind)]
   .have d:z.length=0:=by omega
    have:z.cps.toList=[]:=io.mp (hn▸d);rw[this];simp
  unfold rK;rw[c]
 .unfold rK;rw[<-e]
def C7 (K:Z5):V->Option Int->Option Int->Hp->VK->Prop:=λx lo hi H Q=>∃B dx d,Rep K H B x dx/\rL dx lo hi=.ok d/\∀w H',Same H H'->Rep K H' (λa=>nw H a\/B a) w d->(∀ds,d=.list ds->imms ds=Z7->Rep K H' (nw H) w d)->Q w H'
theorem O4:mF X (C7 X.K):=by
 intro g s n H x v o t b c sl Q I u hs pl pu h;refine(Ol.or NJ) g s n H x v o t b c sl Q I u hs pl pu ?_;obtain⟨B,w,d,r,e,q⟩:=h;cases w<;>try (cases e;done)
 case list xs=>cases e;obtain⟨a,j,rfl,k,i⟩:=mH r;refine .inl (.inl ⟨a,j,rfl,k,λp f=>?_⟩);exact q _ _ (Same.upd f) (rU f (i.cut b c) (λ_ z=>.inr z) (.inl f)) λm z l=>by cases z;exact rU f (aD.bD _ l (i.cut b c)) (λ_ z=>z) f
 case tuple xs=>
  change(if aU xs.length 0 b=0/\aU xs.length xs.length c=xs.length then Res.no else Res.ok (PyData.tuple (cut xs b c)))=_ at e;split at e
  .cases e
  .rename_i y;cases e;obtain⟨a,j,rfl,k,i⟩:=r;refine .inr ⟨a,j,rfl,k,by rw[i.length];exact y,λp f=>?_⟩;exact q _ _ (Same.upd f) (Ae f (i.cut b c) λ_ z=>.inr z) λm z=>by cases z
 case str z=>
  change(if z.length<=aZ then Res.ok (ZX (rK z b c))else .no)=_ at e;split at e
  .rename_i hl;cases e;have A:=r.1;subst A;refine .inl (.inr ⟨z,rfl,jX hl,?_⟩);rw[O3];exact q _ H (Same.refl H) ⟨rfl,O1 r.2 b c⟩ λm z=>by cases z
  .cases e
theorem C8:PO X Z8 (tDO X.K λ_=>.ok Z8):=PO.imp NF λa H Q ⟨b,F,z,so,e,q⟩=>by cases e;exact q H (Same.refl H)
theorem O5 (c:PE X a (tD X.K fa)):PO X (Z9 a) (tDO X.K λb=>fa b>>=λx=>rM x.2):=
 PO.imp (NG c) λk H Q ⟨b,F,z,so,e,q⟩=>by
  obtain⟨x,f,e⟩:=Res.aA e;refine⟨b,F,x,so,f,λv h i j=>?_⟩;obtain⟨g,d⟩:=x;cases d<;>try (cases e;done)
  cases e;exact⟨_,j,q h i⟩
theorem d_sl {k:Option Expr}(m:PE X a (tD X.K fa))(n:PO X k (tDO X.K fl))(hh:PO X i (tDO X.K o)):
  PE X (.Subscript a (.Slice k i Z8 p2) pos) (tD X.K λb=>fa b>>=λx=>fl b>>=λl=>o b>>=λh=>rL x.2 l h>>=λd=>.ok (gN d (cB [x]),d)):=
 PE.imp (NI O4 m n hh) λD H Q ⟨b,F,z,so,e,q⟩=>by
  obtain⟨x,p,e⟩:=Res.aA e;obtain⟨l,r,e⟩:=Res.aA e;obtain⟨h,s,e⟩:=Res.aA e;obtain⟨d,t,e⟩:=Res.aA e;cases e;refine⟨b,F,x,so,p,λv E c u=>⟨b,F,l,so.same c,r,λG f=>⟨b,F,h,so.same (c.trans f),s,λI g=>⟨_,x.2,d,u.same (f.trans g) λ_ z=>z,t,λw y A j B=>q w y ((c.trans (f.trans g)).trans A) (HE j (λa h=>?_) λC z i=>(B C z i).weak λ_ z=>nw.back (c.trans (f.trans g)) z)⟩⟩⟩⟩;rcases h with h|h
  .exact CT so.aH (c.trans (f.trans g)) h
  .exact uM so.aH (by simp) h
theorem d_cB {id:String}(hc:CallR X (.builtin id) (z7o X.K m))(hm:X.mg x=Z8)(k:db x=Z9 (.builtin id))(l:PA X (e::es) (tDA X.K fs))(b:((e::es).all fun e=>!isStar e)=Z7)(n:Gl X x)(hn:x≠"__name__")(c:XX x):
  PE X (.Call (.Name x p) (e::es) [] pos) (tD X.K λf=>fs f>>=λg=>m (g.map (·.2))>>=λd=>.ok (gJ d .al,d)):=
 PE.imp (uG hc hm k l b n hn c) λu H Q ⟨f,F,z,so,e,q⟩=>by obtain⟨g,o,e⟩:=Res.aA e;obtain⟨d,r,e⟩:=Res.aA e;cases e;exact⟨f,F,g,so,o,λv y j rs=>⟨_,_,d,rs.iZ so.aH,r,λw s t i=>q w s (j.trans t) (pN i λa h=>h.elim (λz=>(nw.back j z).aH so.aH) λz=>z)⟩⟩
theorem aS.length {K:Z5}:∀{kvs:List (Key×V)} {es:bF},aS K H B kvs es->kvs.length=es.length
 |kvs,[],r=>by have e:kvs=[]:=r;subst e;rfl
 |kvs,(kd,d)::es,r=>by obtain⟨k,v,t,rfl,_,_,_,q⟩:=r;rw[bu,bu,q.length]
theorem Ai {K:Z5}(r:aD K H B xs [d]):∃v,xs=[v]/\Rep K H B v d:=by obtain⟨v,t,e,h,q⟩:=r;subst e q;exact⟨v,rfl,h⟩
theorem C9 {K:Z5}(r:aD K H B xs [d,d']):∃v v',xs=[v,v']/\Rep K H B v d/\Rep K H B v' d':=by obtain⟨v,t,e,h,q⟩:=r;obtain⟨v',e2,h'⟩:=Ai q;subst e e2;exact⟨v,v',rfl,h,h'⟩
theorem HM:CallR X (.builtin "len") (z7o X.K (hX "len")):=by
 refine CallR.imp (Om.or N3) λl H Q h=>?_;obtain⟨B,g,d,r,e,q⟩:=h;simp only[hX,if_true]at e;split at e
 .rename_i x;obtain⟨v,rfl,i⟩:=Ai r;clear r;have r:=i;cases x<;>try (cases e;done)
  case str z=>
   change(if z.length<=aZ then Res.ok (ZV z.length)else .no)=_ at e;split at e
   .rename_i j;cases e;have k:=r.1;subst k;exact .inl (.inl ⟨z,rfl,jX j,q _ H (Same.refl H) rfl⟩)
   .cases e
  case tuple g=>cases e;obtain⟨a,b,rfl,c,f⟩:=r;exact .inl (.inr ⟨a,b,rfl,.inr c,q _ H (Same.refl H) (f.length▸rfl)⟩)
  case list g=>cases e;obtain⟨a,b,rfl,c,f⟩:=mH r;exact .inl (.inr ⟨a,b,rfl,.inl c,q _ H (Same.refl H) (f.length▸rfl)⟩)
  case dict g=>cases e;obtain⟨a,b,rfl,c,_,f⟩:=r;exact .inr ⟨a,b,rfl,c,q _ H (Same.refl H) (f.length▸rfl)⟩
 .cases e
theorem O6 (hc:X.calm=Z7):CallR X (.builtin "max") (z7o X.K (hX "max")):=by
 refine CallR.imp (Nk hc) λc H Q h=>?_;obtain⟨B,f,d,r,e,q⟩:=h;simp only[hX,show("max":String)≠"len" by decide,if_true,if_false]at e;split at e
 .rename_i i j;cases e;obtain⟨v,g,rfl,a,b⟩:=C9 r;subst a b;refine⟨i,j,rfl,q _ H (Same.refl H) ?_⟩
  congr 1
  split<;>omega
 .cases e
theorem zhc (I:Inv X j q H s)(c:RelV x u)(r:Rep X.K H B x d)(l:T∈tysB)
  (h:∀m,Q (.bool (nR (jQ d) T)) {s with toks:=m}):wpAny (model X.prog X.w) A (call (.builtin "isinstance") [u,.type T]) Q E s:=by
 have n:jQ d∈nM:=by cases d<;>simp[jQ,nM]
 have e:=Oq X.K _ n T l;cases d with
 |none=>have f:x=.non:=r;subst f;exact z2e I c .non e h
 |bool b=>have f:x=.bl b:=r;subst f;exact z2e I c (.bl b) e h
 |int b=>have f:x=.int b:=r;subst f;exact z2e I c (.int b) e h
 |str b=>have f:x=.str b:=r.1;subst f;exact z2e I c (.str b) e h
 |tuple p=>obtain⟨a,k,rfl,g,_⟩:=r;cases c;obtain⟨_,_,⟨o,i,hc,_⟩,_⟩:=I.tuple g;exact Z2 W.kitx_tuple I.dS ⟨o,i,hc⟩ e (λz=>nomatch z) h
 |list p=>obtain⟨a,k,rfl,g,_⟩:=mH r;cases c;obtain⟨_,_,⟨o,_,i,hc,_⟩,_⟩:=I.list g;exact Z2 W.kitx_list I.dS ⟨o,i,hc⟩ e (λz=>nomatch z) h
 |dict es=>obtain⟨a,k,rfl,g,_⟩:=r;exact z2e I c (.dK g) e h
def Dc (K:Z5):List V->Hp->VK->Prop:=λxs H Q=>∃B x d T,xs=[x,.ty T]/\Rep K H B x d/\T∈tysB/\Q (.bl (nR (jQ d) T)) H
theorem O7:CallR X (.builtin "isinstance") (Dc X.K):=by
 rintro a s h H i j Q I r ⟨B,x,d,T,rfl,b,c,q⟩
 obtain⟨u,e,rfl,f,g⟩:=vals2 r;obtain rfl:e=ZR T:=g;exact zhc I f b c λk=>⟨.bl _,H,I.tok _,rfl,q⟩
theorem zwe (hm:X.mg "isinstance"=Z8)(hg:Gl X "isinstance")(hm2:X.mg x2=Z8)(hv2:db x2=Z9 (.type T))(hg2:Gl X x2)(hn2:x2≠"__name__")(hd2:XX x2)(hT:T∈tysB)(hs:isStar y=Z6)(ha:PE X y (tD X.K fa)):
  PE X (.Call (.Name "isinstance" p) [y,.Name x2 p2] [] pos) (tD X.K λρ=>fa ρ>>=λx=>.ok (.fr,.bool ([T].any λT=>nR (jQ x.2) T))):=
 PE.imp (uG O7 hm (by decide+kernel) (cV ha (cV (MP (v:=.ty T) hg2 hm2 hv2 rfl hn2 hd2) hU) hs) (by simp[hs];rfl) hg dc dc) λσ H Q ⟨ρ,F,z,so,e,q⟩=>by obtain⟨x,e1,e⟩:=Res.aA e;cases e;refine⟨ρ,F,x,so,e1,λv H1 s1 rv=>?_⟩;refine⟨_,v,x.2,T,rfl,rv,hT,q _ H1 s1 ?_⟩;show V.bl _=V.bl _;simp
end
section
variable {X:Cx}{pos:Pos}
end
def Kp (B:Ad->Prop)(H1 H2:Hp):Prop:=∀a o,H1 a=Z9 o->(B (Z9 a)\/Fix o)->H2 a=Z9 o
theorem Kp.of (s:Same b c):Kp B b c:=λa o e _=>s a o e
structure Walk (K:Z5)(J:It)(B:Ad->Prop)(H1:Hp)(xs:List D):Prop where
 len:xs.length<=bh
 go:∀H2,Kp B H1 H2->∀i,i<xs.length->J.go i H2
 stop:∀H2,Kp B H1 H2->J.stop xs.length H2
 gG:∀H2,Kp B H1 H2->∀i x H3,i<xs.length->J.gG i H2 x H3->Same H2 H3/\∃d,xs[i]?=Z9 d/\Rep K H3 B x d
def tDW (K:Z5)(f:Rho->Res (G×List D)):TI:=λσ H R=>∃ρ F w,StOk K F H σ ρ/\f ρ=.ok w/\∀J B H',Same H H'->(∀a,B a->BG F H w.1 a/\¬nw H' a)->Walk K J B H' w.2->R J H'
theorem _root_.L2.PI.imp (h:PI X tg e t)(i:∀σ H Q,t' σ H Q->t σ H Q):PI X tg e t':=λpins s σ H Q I q=>h pins s σ H Q I (i σ H Q q)
section
variable {K:Z5}{H:Hp}{B:Ad->Prop}
theorem O8 (h:(H a=Z9 (.lst c)/\B (Z9 a))\/(FL K H a c/\B Z8))(r:aD K H B c g)(l:g.length<=bh):Walk K (B4 K a) B H g:=by
 have f:∀e,Kp B H e->SqL K e a c:=λe k=>by
  rcases h with⟨h,b⟩|⟨⟨o,h⟩|h,_⟩
  .exact .inl (.inl (k a _ h (.inl b)))
  .exact .inl (.inr ⟨o,k a _ h (.inr True.intro)⟩)
  .exact .inr h
 refine⟨l,λe k i j=>?_,λe k=>⟨c,f e k,by rw[r.length];exact ai _⟩,λe k i x q j y=>?_⟩
 .have m:i<c.length:=r.length▸j;exact⟨c,c[i],f e k,by simp[m]⟩
 .obtain⟨rfl,y⟩:=y;obtain⟨d,n,p⟩:=r.eY (y c (f _ k));exact⟨Same.refl _,d,n,Rep.keep k (λ_ z=>z) d p⟩
theorem O9 (h:bN K H a c)(r:aD K H B c f)(j:f.length<=bh):Walk K (GW K a) B H f:=by
 have e:∀b,Kp B H b->bN K b a c:=λb k=>h.keep k;refine⟨j,λb k i g=>?_,λb k=>⟨c,e b k,by rw[r.length];exact ai _⟩,λb k i x o g y=>?_⟩
 .have l:i<c.length:=r.length▸g;exact⟨c,c[i],e b k,by simp[l]⟩
 .obtain⟨rfl,y⟩:=y;obtain⟨d,m,n⟩:=r.eY (y c (e _ k));exact⟨Same.refl _,d,m,Rep.keep k (λ_ z=>z) d n⟩
theorem O' {b:Int}(e:n<=bh):Walk K (zT b n) B H ((cc n).map λ(i:Nat)=>.int (b+i)):=by
 have c:((cc n).map λ(i:Nat)=>(ZV (b+i):D)).length=n:=by simp
 refine⟨by rw[c];exact e,λd k i a=>?_,λd k=>?_,λd k i x f a y=>?_⟩
 .rw[c]at a;exact a
 .show n<=_;rw[c];simp_all
 .obtain⟨rfl,rfl⟩:=y;rw[c]at a;exact⟨Same.refl _,.int (b+i),by rw[ar,i5 a];rfl,rfl⟩
end
section
variable {X:Cx}{tg a b c e:Expr}{es:List Expr}{fa fb fc:Rho->Res GD}{pos:Pos}
theorem z2o (c:Inv X i u g f)(r:RelV y v)(s:Rep X.K g B y d)(e:z5f d=.ok x)
  (q:∀J,Walk X.K J B g x->R J g):wpAny (model X.prog X.w) X.A (rq v) (tY X i u tg R) X.xe f:=by
 cases d<;>try (cases e;done)
 case list ds=>
  cases e;obtain⟨a,t,rfl,h,rs⟩:=s
  have j:SqL X.K g a t:=by
   rcases h with⟨h,_⟩|⟨h|h,_⟩
   .exact .inl (.inl h)
   .exact .inl (.inr h)
   .exact .inr h
  cases r;obtain⟨k,l,p,m⟩:=c.list j;refine jm p.isList (⟨f.heap.objs.size,[f.heap.objs.size],_,_,g,rfl,c.kept λb o e=>af _ e,GX a _,⟨_,ax _ rfl,rfl,rfl⟩,λb n=>?_,q _ (O8 h rs (rs.length▸m))⟩);have e:b=f.heap.objs.size:=by simpa using n
  subst e;exact c.gI (ai _) (c.hok.fresh (ai _))
 case tuple ds=>
  cases e;obtain⟨a,t,rfl,j,rs⟩:=s;cases r;obtain⟨k,l,p,m⟩:=c.tuple j;refine vw p (⟨f.heap.objs.size,[f.heap.objs.size],_,_,g,rfl,c.kept λb o e=>af _ e,M5 a _,⟨_,ax _ rfl,rfl,rfl⟩,λb n=>?_,q _ (O9 j rs (rs.length▸m))⟩);have e:b=f.heap.objs.size:=by simpa using n
  subst e;exact c.gI (ai _) (c.hok.fresh (ai _))
theorem bR (ha:PE X a (tD X.K fa)):PI X tg a (tDW X.K λρ=>fa ρ>>=λx=>z5f x.2>>=λxs=>.ok (x.1,xs)):=by
 rintro pins s σ H R I ⟨ρ,F,w,so,e,q⟩
 obtain⟨x,e1,e⟩:=Res.aA e;obtain⟨xs,e2,e⟩:=Res.aA e;cases e;refine aI (ha pins s σ H (λv H1=>Same H H1/\Rep X.K H1 (BG F H x.1) v x.2) I ⟨ρ,F,x,so,e1,λv H1 s1 rv=>⟨s1,rv⟩⟩) λv s1 zz=>?_;obtain⟨y,H1,I1,r1,Dd,rv⟩:=zz;exact z2o I1 r1 (Rep.there _ rv) e2 λJ wk=>q J _ H1 Dd (λ_ z=>z) wk
theorem Pa {n:Int}(a:n<=aZ)(b:-aZ<=n):-(2 ^ 62)<=n/\n<2 ^ 62:=by unfold aZ at *;omega
theorem dY.one {K:Z5}(r:dY K F H H' vs [x]):∃v,vs=[v]/\Rep K H' (BG F H x.1) v x.2:=by obtain⟨v,t,e,h,q⟩:=r;subst e q;exact⟨v,rfl,h⟩
theorem dY.two {K:Z5}(r:dY K F H H' vs [x,y]):∃v w,vs=[v,w]/\Rep K H' (BG F H x.1) v x.2/\Rep K H' (BG F H y.1) w y.2:=by obtain⟨v,t,e,h,q⟩:=r;obtain⟨w,a,b⟩:=q.one;subst e a;exact⟨v,w,rfl,h,b⟩
theorem Pb (hm:X.mg "range"=Z8)(l:Gl X "range")(hs:isStar a=Z6)(m:PA X [a] (tDA X.K fs))(o:∀c b,fs c=.ok b->b.length=1):PI X y (.Call (.Name "range" p) [a] [] pos) (tDW X.K λc=>fs c>>=λb=>jR (b.map (·.2))>>=λj=>.ok (.fr,j)):=
 PI.imp (M8 l hm m (eX hs)) λA H R ⟨c,F,w,so,e,q⟩=>by
  obtain⟨b,k,e⟩:=Res.aA e;obtain⟨j,f,e⟩:=Res.aA e;cases e;refine⟨c,F,b,so,k,λB r s rs=>?_⟩
  match b,(o c b k)with
  | [(g,d)],t=>
   obtain⟨v,rfl,u⟩:=rs.one;cases d<;>try (cases f;done)
   rename_i n;subst u;change(if n<=aZ/\-aZ<=n then Res.ok ((cc n.toNat).map λ(i:Nat)=>ZV i)else .no)=_ at f;split at f
   case isFalse=>cases f
   rename_i hn;cases f;have h:=Pa hn.1 hn.2;refine⟨n,rfl,h.1,h.2,q _ (λ_=>False) r s (λ_ z=>z.elim) ?_⟩;have x:((cc n.toNat).map λ(i:Nat)=>(ZV i:D))=(cc n.toNat).map λi=>.int (0+i):=by apply i6;intro i _;rw[Int.zero_add]
   rw[x];exact O' (jX (by unfold aZ at *;omega))
def Fm.drop (F:Fm)(i:Nat):Fm:={F with O:=λa=>if F.O a=Z9 i then Z8 else F.O a}
theorem Fm.bH {F:Fm}{a:Addr}(h:F.O a=Z8):(F.drop i).O a=none:=by show(if F.O a=Z9 i then Z8 else F.O a)=Z8;rw[h];rfl
theorem Bin.drop {a:Ad}(h:Bin F a):Bin (F.drop i) a:=by
 cases a with
 |none=>exact h
 |some a=>exact⟨Fm.bH h.1,h.2⟩
theorem Slot.drop {K:Z5}(a:j≠i)(h:Slot K F H j g v d):Slot K (F.drop i) H j g v d:=by
 cases g with
 |fr=>
  obtain⟨p,e,o,h⟩:=h;refine⟨p,e,?_,?_⟩
  .show(if F.O p=Z9 i then Z8 else F.O p)=Z9 j;rw[o,yb (λz=>a (yc z))]
  .rcases h with⟨c,f,k,l,r⟩|⟨c,f,k,l,r⟩
   .exact .inl ⟨c,f,k,l,r.weak λ_ b=>b.drop⟩
   .exact .inr ⟨c,f,k,l,aS.same (λ_ _ e=>e) (λ_ b=>b.drop) r⟩
 |od=>exact h
 |al=>exact h
 |nu=>exact Rep.weak (λ_ b=>b.drop) h
def BI (F:Fm):G->Ad->Prop
 |.od=>eZ F
 |.fr=>bI F
 |.al=>bI F
 |.nu=>bI F
theorem BI.of {a:Ad}(b:∀a,H a=Z8->F.V a)(h:BG F H g a):BI F g a:=by
 cases g with
 |fr=>exact nw.aH b h
 |od=>exact h
 |al=>exact h
 |nu=>exact h.elim (nw.aH b) Bin.aH
theorem StOk.lI {K:Z5}(so:StOk K F H f h)(r:Rep K H (BI F x.1) v x.2):StOk K (F.drop i) H (f.set i (Z9 v)) (h.set i (Z9 (z1u x))) where
 ext:=so.ext
 aH:=so.aH
 own:=λa j e=>by
  have k:F.O a=Z9 j:=by
   have:(if F.O a=Z9 i then Z8 else F.O a)=Z9 j:=e;split at this
   .cases this
   .exact this
  exact so.own a j k
 len:=by rw[du,du];exact so.len
 sl:=λj g d e=>by
  by_cases c:i=j
  .subst c;rw[gx]at e;simp only[if_true]at e;split at e
   .rename_i l;have b:z1u x=(g,d):=by simpa using e
    refine⟨v,?_,?_⟩
    .rw[gx];simp[so.len,l]
    .obtain⟨m,dx⟩:=x;cases m with
     |fr=>cases b;exact r
     |od=>cases b;exact r
     |al=>cases b;exact r
     |nu=>cases b;exact r
   .cases e
  .rw[df c]at e ⊢;obtain⟨u,n,o⟩:=so.sl j g d e;exact⟨u,n,o.drop λz=>c z.symm⟩
structure Keeps (F F':Fm)(is:List Nat)(σ σ':L2.St):Prop where
 h0:F'.H0=F.H0
 v:F'.V=F.V
 z:F'.z=F.z
 o:∀a,F.O a=Z8->F'.O a=Z8
 len:σ'.length=σ.length
 rest:∀j,j∉is->σ'[j]?=σ[j]?
theorem Keeps.refl:Keeps F F is σ σ:=⟨rfl,rfl,rfl,λ_ h=>h,rfl,λ_ _=>rfl⟩
theorem Keeps.set {v:Option V}(h:i∈is):Keeps F (F.drop i) is σ (σ.set i v):=⟨rfl,rfl,rfl,λ_ h=>Fm.bH h,du,λj a=>df λz=>a (by rw[<-z];exact h)⟩
theorem Keeps.trans (a:Keeps F F' is σ σ')(b:Keeps F' uN is σ' De):Keeps F uN is σ De:=⟨b.h0.trans a.h0,b.v.trans a.v,b.z.trans a.z,λx h=>b.o x (a.o x h),b.len.trans a.len,λj hj=>(b.rest j hj).trans (a.rest j hj)⟩
def tDG (K:Z5)(t:Tg):TG:=λv σ H Q=>∃ρ F x dX,StOk K F H σ ρ/\Rep K H (BI F x.1) v x.2/\dQ t x ρ=.ok dX/\∀σ' F',StOk K F' H σ' dX->Keeps F F' (tgIx t) σ σ'->Q σ' H
theorem _root_.L2.PG.imp (h:PG X e t)(i:∀v σ H Q,t' v σ H Q->t v σ H Q):PG X e t':=λpins s σ H v u Q I r q=>h pins s σ H v u Q I r (i v σ H Q q)
theorem _root_.L2.PGs.imp {e:List Expr}(h:PGs X e t)(i:∀v σ H Q,t' v σ H Q->t v σ H Q):PGs X e t':=λpins s σ H v u Q I r q=>h pins s σ H v u Q I r (i v σ H Q q)
theorem Pc (hN:X.N.Nodup)(a:X.N[i]?=Z9 x)(b:Loc X.env.scope x)(c:Sto X x):PG X (.Name x pos) (tDG X.K (.nm i)):=PG.imp (BX hN a b c) λv f H Q ⟨g,F,x,d,so,r,e,q⟩=>by cases e;exact q _ _ (so.lI r) (Keeps.set (by simp[tgIx]))
def lJ (K:Z5)(all is:List Nat):tX:=λvs σ H Q=>∃ρ F g ds dX,(∀i∈is,i∈all)/\StOk K F H σ ρ/\aD K H (BI F g) vs ds/\rJ ρ is ds g=Z9 dX/\∀σ' F',StOk K F' H σ' dX->Keeps F F' all σ σ'->Q σ' H
theorem Pd:PGs X [] (lJ X.K all []):=
 PGs.imp M4 λf b H Q ⟨h,F,g,a,c,_,so,r,e,q⟩=>by
  cases a with
  |nil=>cases e;exact⟨r,q b F so Keeps.refl⟩
  |cons d a=>cases e
theorem Pe (hN:X.N.Nodup)(c:X.N[i]?=Z9 x)(u:Loc X.env.scope x)(w:Sto X x)(h:PGs X es (lJ X.K all is)):PGs X (.Name x p::es) (lJ X.K all (i::is)):=
 PGs.imp (zgl (BX hN c u w) h (by rfl)) λC D H Q ⟨y,F,g,l,m,f,so,r,e,q⟩=>by
  cases l with
  |nil=>cases e
  |cons d l=>
   obtain⟨v,t,rfl,s,z⟩:=r;refine⟨v,t,rfl,y.set i (Z9 (z1u (gJ d g,d))),F.drop i,g,l,m,λj A=>f j (ay _ A),?_,?_,e,λn B o k=>q n B o ((Keeps.set (f i bb)).trans k)⟩
   .refine so.lI ?_;unfold gJ;by_cases c:aL d=Z7
    .rw[ya c];exact Rep.bD d c s
    .rw[yb c];exact s
   .exact z.weak λa b=>by cases g<;>exact b
theorem Pf (x:X.calm=Z7)(h:PGs X es (lJ X.K is is))(hn:(iy es X.env).length=n)(p:(iy es X.env).findIdx? (·.1)=Z8)(y:is.length=n):PG X (.Tuple es k pos) (tDG X.K (.tp is)):=
 λl s z H v u Q I A ⟨f,F,⟨g,d⟩,j,so,r,e,q⟩=>by
  have m:∀is b f c,rJ f is b g=Z9 c->is.length=b.length:=by
   intro is
   induction is with
   |nil=>intro b f c h;cases b with
    |nil=>rfl
    |cons _ _=>cases h
   |cons i is B=>intro b f c h;cases b with
    |nil=>cases h
    |cons d b=>rw[bu,bu,B b _ _ h]
  have t:∀b,Res.eE (rJ f is b g)=.ok j->rJ f is b g=Z9 j:=λb e=>by
   cases o:rJ f is b g with
   |none=>rw[o]at e;cases e
   |some c=>rw[o]at e;rw[Res.ok.inj e]
  cases d<;>try (cases e;done)
  case tuple b=>have o:=t b e;obtain⟨a,C,rfl,D,w⟩:=r;exact znv x h hn p l s z H _ u Q I A ⟨a,C,rfl,D,by rw[w.length,<-m _ _ _ _ o];exact y,f,F,g,b,j,λ_ h=>h,so,w,o,q⟩
theorem StOk.blk {K:Z5}(so:StOk K F H s k)(m:Nat)(js:List Nat)(l:Addr)(u:List V)(c:H l=Z8):
  StOk K {F with V:=λa=>F.V a/\a≠l,O:=λ_=>Z8} (upd H l (.lst u)) (eJ m js s) (bo m Z8++js.map λj=>bW (k.getD j Z8)) where
 ext:=λa o e=>by have:=so.ext a o e;rw[aB (dE this c)];exact this
 aH:=λa e=>by
  by_cases h:a=l
  .subst h;rw[aT]at e;cases e
  .rw[aB h]at e;exact⟨so.aH a e,h⟩
 own:=λa i e=>by cases e
 len:=by unfold eJ;simp
 sl:=λi g d e=>by
  have n:∀a,bI F a/\¬nw H a->bI {F with V:=λa=>F.V a/\a≠l,O:=λ_=>Z8} a:=λa h=>by
   cases a with
   |none=>exact h.1
   |some a=>exact⟨h.1,λz=>h.2 (z▸c)⟩
  have p:∀a,eZ F a/\¬nw H a->eZ {F with V:=λa=>F.V a/\a≠l,O:=λ_=>Z8} a:=λa h=>by
   cases a with
   |none=>exact h.1
   |some a=>exact⟨h.1.1,h.1.2,λz=>h.2 (z▸c)⟩
  rw[oj]at e;split at e
  .rw[fh]at e;split at e<;>cases e
  .rename_i w;rw[dg]at w e;rw[ar]at e;cases q:js[i-m]? with
   |none=>rw[q]at e;cases e
   |some j=>
    rw[q]at e;have b:bW (k.getD j Z8)=Z9 (g,d):=yc e;cases r:k[j]? with
    |none=>rw[az,r]at b;cases b
    |some o=>
     rw[az,r]at b;cases o with
     |none=>cases b
     |some gd=>
      obtain⟨t,d0⟩:=gd;obtain⟨v,x,f⟩:=so.sl j t d0 r;refine⟨v,?_,?_⟩
      .unfold eJ;rw[kj (by grind),dg,ar,q];show Z9 (s.getD j Z8)=_;rw[az,x];rfl
      .cases t with
       |fr=>cases b;exact Rep.same (Same.upd c) n (Rep.there _ (f.rep so.iN))
       |od=>cases b;exact Rep.same (Same.upd c) p (Rep.there _ f)
       |al=>cases b;exact Rep.same (Same.upd c) n (Rep.there _ f)
       |nu=>cases b;exact Rep.same (Same.upd c) n (Rep.there _ (f.rep so.iN))
theorem Df:∀l m r,hY f (l++m)=.ok r->∃a b,hY f l=.ok a/\hY f m=.ok b/\r=a++b
 | [],m,r,h=>⟨[],r,rfl,h,rfl⟩
 |x::l,m,r,h=>by
  obtain⟨o,c,h⟩:=Res.aA h;obtain⟨d,e,h⟩:=Res.aA h;obtain⟨a,b,g,i,rfl⟩:=Df l m d e;cases h;refine⟨oc o a,b,?_,i,?_⟩
  .show(f x>>=λo=>hY f l>>=λr=>Res.ok (oc o r))=_;rw[c,Res.aC,g,Res.aC]
  .cases o<;>rfl
theorem dY.snoc {K:Z5}:∀{vs:List V} {xs:List GD} {v:V} {x:GD},dY K F H H' vs xs->Rep K H' (BG F H x.1) v x.2->dY K F H H' (vs++[v]) (xs++[x])
 |vs,[],v,x,r,h=>by have e:vs=[]:=r;subst e;exact⟨v,[],rfl,h,rfl⟩
 |vs,y::ys,v,x,r,h=>by obtain⟨u,t,rfl,h1,q⟩:=r;exact⟨u,t++[v],rfl,h1,q.snoc h⟩
theorem dY.keep {K:Z5}(d:∀a o g,f a=Z9 o->(BG F H g (Z9 a)\/Fix o)->h a=Z9 o):∀{c:List V} {xs:List GD},dY K F H f c xs->dY K F H h c xs
 |c,[],r=>r
 |c,y::ys,r=>by obtain⟨u,t,e,i,q⟩:=r;exact⟨u,t,e,Rep.keep (λa o e b=>d a o y.1 e b) (λ_ z=>z) _ i,q.keep d⟩
theorem dY.len {K:Z5}:∀{a:List V} {xs:List GD},dY K F H H' a xs->a.length=xs.length
 |a,[],r=>by have e:a=[]:=r;subst e;rfl
 |a,y::b,r=>by obtain⟨u,t,rfl,c,q⟩:=r;rw[bu,bu,q.len]
theorem HP:∀l r,hY f l=.ok r->r.length<=l.length
 | [],r,h=>by cases h;simp_all
 |x::l,r,h=>by
  obtain⟨o,c,h⟩:=Res.aA h;obtain⟨a,b,h⟩:=Res.aA h;have:=HP l a b;cases h;cases o with
  |none=>exact bp this (by simp)
  |some y=>simp only[oc,bu];omega
def zg6 (nt:Nat)(js:List Nat)(t:Tg)(fw:Rho->Res (G×List D))(fc:Rho->Res Bool)(fe:Rho->Res GD):Rho->Res GD:=λρ=>fw ρ>>=λw=>hY (λx=>dQ t (gJ x w.1,x) (bo nt Z8++js.map λj=>bW (ρ.getD j Z8))>>=λρ1=>fc ρ1>>=λk=>if k then fe ρ1>>=λy=>.ok (Z9 y)else .ok Z8) w.2>>=λys=>.ok (nQ ys,.list (ys.map (·.2)))
def Pg (g:TG)(tc:TT)(te:TE)(em:L2.St->L2.St)(σ:L2.St)(Q:VK):It->Hp->Prop:=λJ H1=>∀l,H1 l=Z8->∃P:Nat->Nat->List V->Hp->Prop,(∃m,P 0 m [] (upd H1 l (.lst [])))/\∀i m acc H2,P i m acc H2->(J.stop i H2/\Q (.ref l) H2)\/(J.go i H2/\acc.length<bh/\∃N:List V->Hp->Prop,(∀lB H',N lB H'->∃m',m'<m/\P (i+1) m' lB H')/\∀x H3,J.gG i H2 x H3->g x (em σ) H3 λjL H4=>fV (em σ) jL/\tc jL H4 λb H5=>if b=Z7 then te jL H5 λy H6=>H6 l=Z9 (.lst acc)/\N (acc++[y]) (upd H6 l (.lst (acc++[y])))else N acc H5)
abbrev CI (K:Z5)(F:Fm)(f:D->Res (Option GD))(ds:List D)(H1:Hp)(l:Nat)(i:Nat)(acc:List V)(H2:Hp):Prop:=H2 l=Z9 (.lst acc)/\(∀a o,H1 a=Z9 o->H2 a=Z9 o)/\∃ys,hY f (ds.take i)=.ok ys/\dY K F (upd H1 l (.lst [])) H2 acc ys
theorem zad {fc:Rho->Res Bool}(ht0:∀i∈tgIx t,i<nt)(so:StOk X.K F H σ ρ)(e:zg6 nt js t fw fc fe ρ=.ok z)(q:∀v D,Same H D->Rep X.K D (BG F H z.1) v z.2->Q v D):
  ∃w,fw ρ=.ok w/\∀J B D,Same H D->(∀a,B a->BG F H w.1 a/\¬nw D a)->Walk X.K J B D w.2->Pg (tDG X.K t) (dR X.K fc) (tD X.K fe) (eJ nt js) σ Q J D:=by
 obtain⟨w,W,e⟩:=Res.aA e;obtain⟨Y,e2,e⟩:=Res.aA e;cases e;refine⟨w,W,λJ B s s1 hB wk l I=>?_⟩;generalize hr:(bo nt Z8++js.map λj=>bW (ρ.getD j Z8))=HQ at e2;generalize hf:(λx=>dQ t (gJ x w.1,x) HQ>>=λn=>fc n>>=λk=>if k then fe n>>=λy=>Res.ok (Z9 y)else .ok Z8)=f at e2;have HR:=so.same s1;have Dg:∀i,∃S,hY f (w.2.take i)=.ok S:=λi=>by rw[<-nj i w.2]at e2;obtain⟨r1,r2,T,_,_⟩:=Df _ _ _ e2;exact⟨r1,T⟩
 let L:Fm:={F with V:=λa=>F.V a/\a≠l,O:=λ_=>Z8}
 refine zwu (CI X.K L f w.2 s l) wk.len ?_ ?_ ?_ ?_ ?_
 .exact⟨aT,λa o e=>by rw[aB (dE e I)];exact e,[],rfl,rfl⟩
 .rintro i p U ⟨_,_,S,M,rs⟩
  rw[rs.len];have:=HP _ _ M;rw[g9]at this;omega
 .rintro p U ⟨T,E,S,M,rs⟩
  rw[List.take_length]at M;rw[e2]at M;cases M;refine⟨wk.stop U (λa o e _=>E a o e),q _ _ (λa o e=>E a o (s1 a o e)) ?_⟩;have HS:=s1.none I;refine⟨l,p,rfl,.inl ⟨T,?_⟩,rs.jW λx hx a hb=>?_⟩
  .show BG F H (nQ Y) (Z9 l);unfold nQ;split
   .exact HS
   .exact so.aH l HS
  .unfold nQ;by_cases ea:(Y.all λx=>x.1==.fr)=Z7
   .rw[ya ea];have Ph:x.1=.fr:=by simpa using cx.mp ea x hx
    rw[Ph]at hb;cases a with
    |none=>exact hb
    |some a=>
     have HU:upd s l (.lst []) a=none:=hb
     have:s a=none:=by
      by_cases c:a=l
      .subst c;exact I
      .rw[aB c]at HU;exact HU
     exact s1.none this
   .rw[yb ea];have:bI L a:=BG.aH (λa e=>((HR.blk nt js l [] I).aH a e)) hb;cases a with
    |none=>exact this
    |some a=>exact this.1
 .rintro i p U N ⟨_,E,_⟩
  exact wk.go U (λa o e _=>E a o e) i N
 .rintro i p U x H3 N ⟨T,E,S,M,rs⟩ y
  obtain⟨s3,d,hd,rx⟩:=wk.gG U (λa o e _=>E a o e) i x H3 N y;obtain⟨XE,A⟩:=Dg (i+1);have P:w.2.take (i+1)=w.2.take i++[d]:=by rw[List.take_add_one,hd];rfl
  rw[P]at A;obtain⟨r1,r2,g1,g2,g3⟩:=Df _ _ _ A;rw[M]at g1;cases g1;obtain⟨o,C,g2⟩:=Res.aA g2;obtain⟨r3,g5,g2⟩:=Res.aA g2;cases g5;rw[<-hf]at C;obtain⟨n,k1,C⟩:=Res.aA C;obtain⟨k,k2,C⟩:=Res.aA C
  have sb:StOk X.K L H3 (eJ nt js σ) HQ:=by
   rw[<-hr];refine(HR.blk nt js l p I).same λa o e=>s3 a o ?_;by_cases c:a=l
   .subst c;rw[aT]at e;rw[T];exact e
   .rw[aB c]at e;exact E a o e
  have Dh:Rep X.K H3 (BI L (gJ d w.1)) x d:=by
   unfold gJ;by_cases N:aL d=Z7
   .rw[ya N];exact Rep.bD d N rx
   .rw[yb N];refine rx.weak λa b=>?_;obtain⟨r,b2⟩:=hB a b;have G:=BI.of so.aH r;cases a with
    |none=>cases hw:w.1<;>rw[hw]at G<;>exact G
    |some a=>
     have c:a≠l:=λz=>b2 (by rw[z];exact I);cases hw:w.1<;>rw[hw]at G
     .exact⟨G,c⟩
     .exact⟨G.1,G.2,c⟩
     .exact⟨G,c⟩
     .exact⟨G,c⟩
  refine⟨_,L,(gJ d w.1,d),n,sb,Dh,k1,λjL R Aj h=>⟨⟨h.len.symm,λj v hj=>?_⟩,n,R,k,Aj,k2,λH5 s5=>?_⟩⟩
  .by_cases HV:j∈tgIx t
   .have :=ht0 j HV;unfold eJ at hj;rw[jg (dg▸this),fh,ya this]at hj;cases hj
   .rw[h.rest j HV];exact hj
  .have h5:∀a o,s a=Z9 o->H5 a=Z9 o:=λa o e=>s5 a o (s3 a o (E a o e));have u:=s5 _ _ (s3 _ _ T);have HW:=rs.keep λa o g e _=>s5 a o (s3 a o e);cases k with
   |false=>cases C;cases g2;refine jJ ⟨u,h5,S,?_,HW⟩;rw[P,A,g3];simp[oc]
   |true=>
    obtain⟨yv,k3,C⟩:=Res.aA C;cases C;cases g2;refine jK ⟨n,R,yv,Aj.same s5,k3,λv H6 s6 rv=>⟨s6 _ _ u,aT,λa o e=>?_,S++[yv],?_,?_⟩⟩
    .rw[aB (dE e I)];exact s6 a o (h5 a o e)
    .rw[P,A,g3];rfl
    .have Pj:=s6 _ _ u
     have hk:∀a o g,H6 a=Z9 o->(BG L (upd s l (.lst [])) g (Z9 a)\/Fix o)->upd H6 l (.lst (p++[v])) a=Z9 o:=λa o g e b=>by
      have c:a≠l:=by
       intro z;subst z;rcases b with b|b
       .cases g with
        |fr=>have m:upd s a (.lst []) a=none:=b;rw[aT]at m;cases m
        |od=>exact b.2.2 rfl
        |al=>exact b.2 rfl
        |nu=>
         rcases b with b|b
         .have m:upd s a (.lst []) a=none:=b;rw[aT]at m;cases m
         .exact b.2.2.2 rfl
       .rw[Pj]at e;cases e;exact b
      rw[aB c];exact e
     have Al:Rep X.K H6 (BG L (upd s l (.lst [])) yv.1) v yv.2:=by
      refine rv.weak λa b=>?_;cases hg:yv.1 with
      |fr=>
       rw[hg]at b;cases a with
       |none=>exact b
       |some a=>
        have m:H5 a=none:=b;show upd s l (.lst []) a=Z8;rw[aB (λz=>by rw[z,u]at m;cases m)];cases W:s a with
        |none=>rfl
        |some o=>rw[h5 a o W]at m;cases m
      |nu=>
       rw[hg]at b;cases a with
       |none=>exact b
       |some a=>
        rcases b with b|b
        .have m:H5 a=none:=b;refine .inl ?_;show upd s l (.lst []) a=Z8;rw[aB (λz=>by rw[z,u]at m;cases m)];cases W:s a with
         |none=>rfl
         |some o=>rw[h5 a o W]at m;cases m
        .refine .inr ⟨rfl,?_,?_⟩
         .have:=b.2.1;rw[h.h0]at this;exact this
         .have:=b.2.2;rw[h.v]at this;exact this
      |od=>
       rw[hg]at b;cases a with
       |none=>have r:R.z:=b;rw[h.z]at r;exact r
       |some a=>have r:R.H0 a≠Z8/\R.V a:=b;rw[h.h0,h.v]at r;exact r
      |al=>
       rw[hg]at b;cases a with
       |none=>have r:R.z:=b;rw[h.z]at r;exact r
       |some a=>have r:R.V a:=b;rw[h.v]at r;exact r
     exact((HW.keep λa o g e _=>s6 a o e).snoc Al).keep hk
theorem Pk {fc:Rho->Res Bool}(ht0:∀i∈tgIx t,i<nt):∀σ H Q,tD X.K (zg6 nt js t fw fc fe) σ H Q->xE (tDW X.K fw) (tDG X.K t) (dR X.K fc) (tD X.K fe) (eJ nt js) σ H Q:=by
 rintro σ H Q ⟨ρ,F,z,so,e,q⟩
 obtain⟨w,e1,h⟩:=zad ht0 so e q;exact⟨ρ,F,w,so,e1,h⟩
theorem zdz {fc:Rho->Res Bool}(hc:X.calm=Z7)(Bk:BlkScope X scope N' nt js)(ht0:∀i∈tgIx t,i<nt)(hi:PI X tg iter (tDW X.K fw))
  (hg:∀C fp s H,PG (blk X scope N' C fp s H) tg (tDG X.K t)) (ht:∀C fp s H,nJ (blk X scope N' C fp s H) ifs (dR X.K fc)) (he:∀C fp s H,PE (blk X scope N' C fp s H) elt (tD X.K fe)) (hs:∀x,im iter X.env x=pure x):
  PE X (.ListComp elt [⟨tg,iter,ifs,0⟩] scope pos) (tD X.K (zg6 nt js t fw fc fe))/\∀σ H Q,tD X.K (zg6 nt js t fw fc fe) σ H Q->xE (tDW X.K fw) (tDG X.K t) (dR X.K fc) (tD X.K fe) (eJ nt js) σ H Q:=by
 have main:=Pk (X:=X) (js:=js) (fw:=fw) (fc:=fc) (fe:=fe) ht0;exact⟨PE.imp (z9g hc Bk hi hg ht he hs) main,main⟩
end
def BC (H:Hp)(A:Ad->Prop):G->Ad->Prop
 |.fr=>nw H
 |.od=>λa=>nw H a\/A a
 |.al=>λa=>nw H a\/A a
 |.nu=>nw H
def spD (K:Z5)(n:Nat)(m:Fn):Sp:=λvs H Q _=>∃A ds x,vs.length=n/\aD K H A vs ds/\m ds=.ok x/\∀v H',Same H H'->Rep K H' (BC H A x.1) v x.2->Q v H'
section
variable {X:Cx}{tg a b c e o:Expr}{es:List Expr}{fa fb fc:Rho->Res GD}{pos:Pos}
theorem zrk (o:Cal X.prog X.w X.K X.mg X.base k x ps (spD X.K n m))(hr:Room s X.A)(t:k<=s)(u:PA X (e::es) (tDA X.K fs))(g:((e::es).all fun e=> !isStar e)=Z7)(c:Gl X x)(i:XX x)
  (y:∀d b,fs d=.ok b->b.length=n):PE X (.Call (.Name x p) (e::es) [] pos) (tD X.K λd=>fs d>>=λb=>m (b.map (·.2))>>=λr=>.ok (gJ r.2 (iX r.1),r.2)):=
 PE.imp (zer o hr u g t c i) λI H Q ⟨d,F,z,so,e,q⟩=>by
  obtain⟨b,j,e⟩:=Res.aA e;obtain⟨r,B,e⟩:=Res.aA e;cases e;refine⟨d,F,b,so,j,λC l f rs=>?_⟩;show spD X.K n m (C++[]) l Q E0;rw[d6];refine⟨_,_,r,by rw[rs.len];exact y d b j,rs.iZ so.aH,B,λv D E G=>q v D (f.trans E) (pN G λa h=>?_)⟩;have al:(nw l a\/bI F a)->bI F a:=λh=>h.elim (λh=>(nw.back f h).aH so.aH) λh=>h;cases c:r.1 with
  |fr=>rw[c]at h;exact nw.back f h
  |od=>rw[c]at h;exact al h
  |al=>rw[c]at h;exact al h
  |nu=>rw[c]at h;exact nw.back f h
def rMt (K:Z5)(m:String):V->List V->Hp->VK->Prop:=λx xs H Q=>∃B B' dx ds d,Rep K H B x dx/\aD K H B' xs ds/\mtD m dx ds=.ok d/\∀w H',Same H H'->Rep K H' (λa=>nw H a\/B a\/B' a) w d->Q w H'
theorem rG (h:z28 o=Z7):ql o n env w=w:=by
 unfold ql;split
 .rename_i id p pos;cases h
 .rfl
theorem HX:∀{es:List Expr},(es.all λe=> !isStar e)=Z7->(ow pos (fq es env)).all (λx=> !x.1)=Z7
 | [],_=>rfl
 |e::es,h=>by have h:=bn.mp (eg▸h);rw[eX (by simpa using h.1)];show(Z7&&(ow pos (fq es env)).all (λx=>!x.1))=Z7;rw[HX h.2];rfl
theorem z93 (h:(es.all fun e=> !isStar e)=Z7)(a:es.length<20):((ow cpos (fq es env)).all (fun x=> !x.1)&&(backToKw cpos (keywordEach [] env)).all (fun x=>x.1.isSome)
  &&decide (es.length+([]:List wc).length+(if([]:List wc).isEmpty then 0 else 1)<30))=true:=by
 rw[HX h];show(Z7&&Z7&&decide (es.length+0+0<30))=Z7;rw[yf (by omega)];rfl
theorem d_mt {id:String}(pa:PlainAttrs T)(slot:PySem.Slot T n id)(l:typeOf (.builtin id)=pure (.type "method_descriptor"))(hm:MtR X id (rMt X.K m))(A:∀H B x dx C d,Rep X.K H B x dx->mtD m dx C=.ok d->tyV X.K T x H)
  (D:PE X o (tD X.K fa)) (E:PA X (e::es) (tDA X.K fs)) (p:z28 o=Z7) (f:((e::es).all λe=>!isStar e)=Z7) (G:(e::es).length<20) (c:(g.endLine==i.line)=Z7):
  PE X (.Call (.Attribute o n g) (e::es) [] i) (tD X.K λj=>fa j>>=λx=>fs j>>=λr=>mtD m x.2 (r.map (·.2))>>=λd=>.ok (gJ d .al,d)):=by
 have b:=f;rw[eg,cq]at b;refine PE.imp (zgu pa slot l hm D E (rG p) (z93 f G) c (eX (by simpa using b.1)) (nK b.2)) λP H Q I=>?_;obtain⟨j,F,z,so,e,q⟩:=I;obtain⟨x,J,e⟩:=Res.aA e;obtain⟨r,L,e⟩:=Res.aA e;obtain⟨d,u,e⟩:=Res.aA e;cases e;refine⟨j,F,x,so,J,λv M k y=>⟨A M _ v x.2 _ d y u,j,F,r,so.same k,L,λR S s rs=>?_⟩⟩;refine⟨_,_,x.2,_,d,y.same s λ_ z=>z,rs.iZ (so.same k).aH,u,λw N O t=>q w N ((k.trans s).trans O) (pN t λa h=>?_)⟩;rcases h with h|h|h
 .exact(nw.back (k.trans s) h).aH so.aH
 .exact h.aH so.aH
 .exact h
theorem Pm (hu:X.A.units+64<cLine):MtR X "dict.get" (rMt X.K "get"):=by
 rintro f s y H x C v D Q I h rs ⟨B,E,dx,F,d,i,j,e,q⟩
 simp only[mtD,if_true]at e;split at e
 .rename_i es k d0;split at e
  case isFalse=>cases e
  rename_i l;cases e;obtain⟨G,J,rfl,m,n⟩:=C9 j;obtain⟨kk,rfl,rfl,_⟩:=yj l m;obtain⟨a,kvs,rfl,g1,_,g2⟩:=i;cases h;obtain⟨L,M,rfl,o,p⟩:=vals2 rs;have b:=g2.val kk;refine zp7 (by omega) I (DGet.k g1) o p λN O r c=>⟨_,H,r,c,q _ H (Same.refl H) ?_⟩;cases g:eP es (kD kk)with
  |none=>rw[g]at b;rw[show cJ kvs kk=Z8 from b];exact n.weak λ_ z=>.inr (.inr z)
  |some P=>rw[g]at b;obtain⟨w,t,u⟩:=b;rw[t];exact u.weak λ_ z=>.inr (.inl z)
 .cases e
theorem Pn (r:Rep X.K H B x dx)(e:mtD "get" dx ds=.ok d):tyV X.K "dict" x H:=by
 simp only[mtD,if_true]at e;split at e
 .obtain⟨a,kvs,rfl,g1,_,_⟩:=r;exact .inr (.inr (.inl ⟨rfl,.inl ⟨kvs,g1⟩⟩))
 .cases e
end
section
variable {X:Cx}{o e:Expr}{fa fb:Rho->Res GD}
end
def cO (F:Fm)(H:Hp)(F':Fm)(H':Hp):Prop:=∀a o,H a=Z9 o->F.O a=Z8->H' a=Z9 o/\F'.O a=Z8
theorem cO.refl:cO F H F H:=λ_ _ e o=>⟨e,o⟩
theorem cO.trans (a:cO F H f g)(b:cO f g c d):cO F H c d:=λx o e n=>by obtain⟨h,n1⟩:=a x o e n;exact b x o h n1
theorem cO.same (s:Same H b):cO F H F b:=λa o e n=>⟨s a o e,n⟩
def Run (F F':Fm):Prop:=Same F.H0 F'.H0/\F'.V=F.V/\F'.z=F.z
theorem Run.refl:Run F F:=⟨λ_ _ e=>e,rfl,rfl⟩
theorem Run.trans (a:Run F d)(b:Run d c):Run F c:=⟨λx o e=>b.1 x o (a.1 x o e),b.2.1.trans a.2.1,b.2.2.trans a.2.2⟩
theorem Run.of (h:a.H0=F.H0)(v:a.V=F.V)(z:a.z=F.z):Run F a:=⟨λ_ _ e=>by rw[h];exact e,v,z⟩
def BR (F:Fm):G->Ad->Prop
 |.fr=>λa=>match a with|some a=>F.H0 a=Z8|none=>False
 |.od=>bI F
 |.al=>bI F
 |.nu=>λa=>match a with|some a=>F.H0 a=Z8|none=>False
def yl (K:Z5)(F:Fm)(H:Hp)(D:Ends):Out->Prop
 |.nx dX=>∀σ' H' F',StOk K F' H' σ' dX->Run F F'->cO F H F' H'->D.nx σ' H'
 |.rt g d=>∀v H',(∀a o,F.H0 a=Z9 o->H' a=Z9 o)->Rep K H' (BR F g) v d->D.rt v H'
def tDS (K:Z5)(f:Rho->Res Out):TS:=λD σ H=>∃ρ F out,StOk K F H σ ρ/\f ρ=.ok out/\yl K F H D out
theorem none_of (s:Same H b)(h:b a=Z8):H a=none:=by
 cases e:H a with
 |none=>rfl
 |some o=>rw[s a o e]at h;cases h
theorem BR.run (r:Run F c)(h:BR c g a):BR F g a:=by obtain⟨d,e,f⟩:=r;cases g<;>cases a<;>first|exact h|(exact none_of d h)|(have b:c.V _:=h;rw[e]at b;exact b)|(have b:c.z:=h;rw[f]at b;exact b)
theorem yl.back {K:Z5}{D:Ends}(r:Run F m)(f:cO F H m n)(h:yl K F H D i):yl K m n D i:=by
 cases i with
 |nx p=>exact λj c l so q s=>h j c l so (r.trans q) (f.trans s)
 |rt g d=>exact λv c k t=>h v c (λa o e=>k a o (r.1 a o e)) (t.weak λ_ b=>b.run r)
section
variable {X:Cx}{tg a b c e:Expr}{es:List Expr}{fa fb fc:Rho->Res GD}{pos:Pos}{st:Stmt}{rest A Bs:List Stmt}{fs gs:Rho->Res Out}
theorem Po:PSs X [] (tDS X.K λa=>.ok (.nx a)):=PSs.imp GS λD b H ⟨a,F,c,so,e,q⟩=>by cases e;exact q b H F so Run.refl cO.refl
theorem Pp (j:PS X st (tDS X.K fs))(k:PSs X rest (tDS X.K gs)):PSs X (st::rest) (tDS X.K λa=>nV (fs a) gs):=
 PSs.imp (GU j k) λD o H ⟨a,F,b,so,e,q⟩=>by
  have e:nV (fs a) gs=.ok b:=e;cases c:fs a with
  |no=>rw[c]at e;cases e
  |exc x=>rw[c]at e;cases e
  |ok l=>
   rw[c]at e;cases l with
   |nx h=>exact⟨a,F,.nx h,so,c,λm p n i r f=>⟨h,n,b,i,e,q.back r f⟩⟩
   |rt g d=>cases e;exact⟨a,F,.rt g d,so,c,q⟩
theorem Di (hc:PT X c (dR X.K ft))(f:PSs X A (tDS X.K fs))(g:PSs X h (tDS X.K gs)):PS X (.If c A h pos) (tDS X.K λa=>ft a>>=λk=>if k then fs a else gs a):=
 PS.imp (GV hc f g) λD j H ⟨a,F,b,so,e,q⟩=>by
  obtain⟨k,i,e⟩:=Res.aA e;refine⟨a,F,k,so,i,λl d=>?_⟩;cases k with
  |true=>exact jK ⟨a,F,b,so.same d,e,q.back Run.refl (cO.same d)⟩
  |false=>exact jJ ⟨a,F,b,so.same d,e,q.back Run.refl (cO.same d)⟩
theorem Pq {K:Z5}(so:∀a o,F.H0 a=Z9 o->H a=Z9 o)(hv:∀a,H a=Z8->F.V a)(r:Rep K H' (BG F H g) v d):Rep K H' (BR F (iX g)) v d:=by
 refine r.weak λa b=>?_;cases g with
 |fr=>
  cases a with
  |none=>exact b
  |some a=>exact Same.none so b
 |od=>exact eZ.aH b
 |al=>exact b
 |nu=>
  cases a with
  |none=>exact b.elim id id
  |some a=>exact b.elim (λb=>Same.none so b) λb=>b.2.1
theorem Pr (c:PE X e (tD X.K fa)):PS X (.Return (Z9 e) pos) (tDS X.K λb=>fa b>>=λx=>.ok (.rt (iX x.1) x.2)):=PS.imp (BU c) λD j H ⟨b,F,d,so,e,q⟩=>by obtain⟨x,f,e⟩:=Res.aA e;cases e;exact⟨b,F,x,so,f,λv g h i=>q v g (λa o e=>h a o (so.ext a o e)) (Pq so.ext so.aH i)⟩
theorem Slot.ret {K:Z5}(so:∀a i,F.O a=Z9 i->F.H0 a=Z8/\F.V a)(h:Slot K F H i g v d):Rep K H (BR F (if aL d then .fr else iX g)) v d:=by
 by_cases c:aL d=Z7
 .rw[ya c];exact Rep.bD d c (h.rep λa i e=>(so a i e).2)
 .rw[yb c];cases g with
  |fr=>
   obtain⟨p,e,o,h⟩:=h
   have k:∀a,Bin F a->BR F .fr a:=λa b=>by
    cases a with
    |none=>exact b
    |some a=>exact b.2.1
   rcases h with⟨f,l,rfl,j,r⟩|⟨f,l,rfl,j,r⟩
   .exact⟨p,f,e,.inl ⟨j,(so _ _ o).1⟩,r.weak k⟩
   .exact⟨p,f,e,j,(so _ _ o).1,aS.same (λ_ _ e=>e) k r⟩
  |od=>exact Rep.weak (λ_ b=>b.aH) h
  |al=>exact h
  |nu=>
   refine Rep.weak (λa b=>?_) h;cases a with
   |none=>exact b
   |some a=>exact b.2.1
theorem zoh {i:Nat}(hN:X.N[i]?=Z9 x)(j:Vis X.env.scope x)(hd:XX x)(c:(x==("__classdict__":Str))=Z6):
  PS X (.Return (Z9 (.Name x p)) pos) (tDS X.K λb=>match b[i]? with|some (Z9 (g,d))=>.ok (.rt (if aL d then .fr else iX g) d)|_=>.no):=
 PS.imp (BU (qQ hN j hd c)) λD m H ⟨b,F,f,so,e,q⟩=>by
  have e:(match b[i]? with|some (Z9 (g,d))=>Res.ok (Out.rt (if aL d then .fr else iX g) d)|_=>.no)=.ok f:=e;cases h:b[i]? with
  |none=>rw[h]at e;cases e
  |some o=>
   rw[h]at e;cases o with
   |none=>cases e
   |some gd=>obtain⟨g,d⟩:=gd;cases e;obtain⟨v,k,l⟩:=so.sl i g d h;exact⟨v,k,q v H so.ext (l.ret λa i e=>⟨(so.own a i e).1,(so.own a i e).2.1⟩)⟩
theorem Pt (hs:z1j e=Z6)(c:PE X e (tD X.K fa)):PS X (.Expr e pos) (tDS X.K λa=>fa a>>=λ_=>.ok (.nx a)):=PS.imp (lC c hs) λD d H ⟨a,F,f,so,e,q⟩=>by obtain⟨x,g,e⟩:=Res.aA e;cases e;exact⟨a,F,x,so,g,λv h b i=>q d h F (so.same b) Run.refl (cO.same b)⟩
theorem aS.bD {K:Z5}:∀{kvs:List (Key×V)} es,bQ es=Z7->aS K H B kvs es->aS K H B' kvs es
 |kvs,[],_,r=>r
 |kvs,(kd,d)::es,i,r=>by unfold bQ at i;rw[eg,cq]at i;obtain⟨k,v,t,e,a,ok,h,q⟩:=r;exact⟨k,v,t,e,a,ok,Rep.bD d i.1 h,aS.bD es i.2 q⟩
theorem StOk.fH {K:Z5}(so:StOk K F H d ρ){a:Ad}(h:nw H a):Bin F a:=by
 cases a with
 |none=>exact h
 |some a=>
  refine⟨?_,Same.none so.ext h,so.aH a h⟩;cases b:F.O a with
  |none=>rfl
  |some j=>obtain⟨_,_,z⟩:=so.own a j b;rcases z with⟨c,z⟩|⟨c,z⟩<;>rw[h]at z<;>cases z
theorem StOk.Dj {K:Z5}(so:StOk K F H σ ρ)(r:Rep K H (Bin F) v d):StOk K (F.drop i) H (σ.set i (Z9 v)) (ρ.set i (Z9 (.nu,d))):=by
 have z:=so.lI (i:=i) (x:=(.al,d)) (Rep.weak (λ_ b=>Bin.aH b) r);refine⟨z.ext,z.aH,z.own,by rw[du,du];exact so.len,λj g d' e=>?_⟩;by_cases hj:i=j
 .subst hj;rw[gx]at e;simp only[if_true]at e;split at e
  .rename_i hl;cases e;exact⟨v,by rw[gx];simp[so.len,hl],Rep.weak (λ_ b=>b.drop) r⟩
  .cases e
 .refine z.sl j g d' ?_;rw[df hj]at e ⊢;exact e
def Fm.take (F:Fm)(i:Nat)(p:Addr):Fm:={F with O:=λa=>if a=p then Z9 i else if F.O a=Z9 i then Z8 else F.O a}
theorem cO.drop (s:Same H H'):cO F H (F.drop i) H':=λa o e n=>⟨s a o e,Fm.bH n⟩
theorem StOk.setA {K:Z5}(so:StOk K F H Q R)(t:Same H s)(r:Rep K s (BG F H x.1) v x.2):
  ∃f,StOk K f s (Q.set i (Z9 v)) (R.set i (Z9 (z1r x)))/\Run F f/\cO F H f s:=by
 have w:=so.same t;obtain⟨g,d⟩:=x
 have l:z1r (g,d)=z1u (if aL d then .al else HB g,d)->∃f,StOk K f s (Q.set i (Z9 v)) (R.set i (Z9 (z1r (g,d))))/\Run F f/\cO F H f s:=λe=>by
  rw[e];refine⟨F.drop i,w.lI ?_,Run.of rfl rfl rfl,cO.drop t⟩;by_cases k:aL d=Z7
  .rw[ya k];exact Rep.bD d k r
  .rw[yb k];cases g with
   |fr=>exact r.weak λ_ b=>nw.aH so.aH b
   |od=>exact r
   |al=>exact r
   |nu=>exact r.weak λ_ b=>b.elim (nw.aH so.aH) Bin.aH
 have A:z1r (g,d)=(.nu,d)->(∀a,BG F H g a->Bin F a)->∃f,StOk K f s (Q.set i (Z9 v)) (R.set i (Z9 (z1r (g,d))))/\Run F f/\cO F H f s:=λe E=>by rw[e];exact⟨F.drop i,w.Dj (Rep.weak E r),Run.of rfl rfl rfl,cO.drop t⟩
 have own:∀p,F.O p=Z8->H p=Z8->F.H0 p=Z8->F.V p->v=.ref p->z1r (g,d)=(.fr,d)->(∀f,(∀a,Bin F a\/nw H a->a≠Z9 p->Bin f a)->f.O p=Z9 i->Slot K f s i .fr v d)->(((∃I,s p=Z9 (.lst I))\/∃kvs,s p=Z9 (.dK kvs)))->
   ∃f,StOk K f s (Q.set i (Z9 v)) (R.set i (Z9 (z1r (g,d))))/\Run F f/\cO F H f s:=λp U c X Y ev es Z J=>by
  have B:∀a,a≠p->(F.take i p).O a=(F.drop i).O a:=λa ha=>by show(if a=p then Z9 i else _)=_;rw[yb ha];rfl
  have Pu:∀a,H a=Z8->F.O a=none:=λa e=>by
   cases C:F.O a with
   |none=>rfl
   |some j=>obtain⟨_,_,h⟩:=so.own a j C;rcases h with⟨I,h⟩|⟨I,h⟩<;>rw[e]at h<;>cases h
  have y:∀a,Bin F a\/nw H a->a≠Z9 p->Bin (F.take i p) a:=λa b oN=>by
   cases a with
   |none=>exact b.elim id id
   |some a=>have q:a≠p:=λz=>oN (by rw[z]);have E:=b.elim id λb=>⟨Pu a b,(λa e=>Same.none so.ext e) a b,so.aH a b⟩;exact⟨by rw[B a q];exact Fm.bH E.1,E.2⟩
  have L:(F.take i p).O p=Z9 i:=by show(if p=p then Z9 i else _)=_;rw[ya rfl]
  refine⟨F.take i p,⟨w.ext,w.aH,λa j e=>?_,by rw[du,du];exact so.len,λj g' d' e=>?_⟩,Run.of rfl rfl rfl,λa o e n=>⟨t a o e,?_⟩⟩
  .by_cases q:a=p
   .subst q;exact⟨X,Y,J⟩
   .rw[B a q]at e
    have e':F.O a=Z9 j:=by
     have:(if F.O a=Z9 i then Z8 else F.O a)=Z9 j:=e;split at this
     .cases this
     .exact this
    exact w.own a j e'
  .by_cases hj:i=j
   .subst hj;rw[gx]at e;simp only[if_true]at e;split at e
    .rename_i hl;have C:z1r (g,d)=(g',d'):=by simpa using e
     rw[es]at C;cases C;exact⟨v,by rw[gx];simp[so.len,hl],Z _ y L⟩
    .cases e
   .rw[df hj]at e ⊢;obtain⟨u,h1,S⟩:=so.sl j g' d' e;refine⟨u,h1,?_⟩;cases g' with
    |fr=>
     obtain⟨T,C,o1,h3⟩:=S;refine⟨T,C,?_,?_⟩
     .rw[B T (λz=>by rw[z,U]at o1;cases o1)];show(if F.O T=Z9 i then Z8 else F.O T)=Z9 j;rw[o1,yb (λz=>hj (yc z).symm)]
     .have M:∀a,Bin F a/\¬nw H a->Bin (F.take i p) a:=λa b=>y a (.inl b.1) λz=>b.2 (z▸c);rcases h3 with⟨G,D,e3,e2,r3⟩|⟨G,D,e3,e2,r3⟩
      .exact .inl ⟨G,D,e3,t _ _ e2,aD.same t M (aD.there _ r3)⟩
      .exact .inr ⟨G,D,e3,t _ _ e2,aS.same t M (aS.there _ r3)⟩
    |od=>exact Rep.same t (λ_ b=>b) S
    |al=>exact Rep.same t (λ_ b=>b) S
    |nu=>exact Rep.same t (λa b=>y a (.inl b.1) λz=>b.2 (z▸c)) (Rep.there _ S)
  .have q:a≠p:=λz=>by rw[z,c]at e;cases e
   rw[B a q];exact Fm.bH n
 have N:∀p,H p=Z8->F.O p=none:=λp c=>by
  cases C:F.O p with
  |none=>rfl
  |some j=>obtain⟨_,_,P⟩:=so.own p j C;rcases P with⟨I,P⟩|⟨I,P⟩<;>rw[c]at P<;>cases P
 by_cases k:aL d=Z7
 .exact l (by show(if aL d then _ else _)=_;rw[ya k];rw[ya k];rfl)
 .cases g with
  |od=>exact l (by delta z1r;simp only[yb k];rfl)
  |al=>exact l (by delta z1r;simp only[yb k];cases d<;>rfl)
  |nu=>exact A (by delta z1r;simp only[yb k]) λa b=>b.elim so.fH id
  |fr=>
   cases d with
   |none=>exact absurd rfl k
   |bool b=>exact absurd rfl k
   |int b=>exact absurd rfl k
   |str b=>exact absurd rfl k
   |tuple D=>exact A (by delta z1r;simp only[yb k]) λa b=>so.fH b
   |list D=>
    by_cases m:imms D=Z7
    .obtain⟨p,G,ev,h,rs⟩:=r;rcases h with⟨h,b⟩|⟨_,b⟩
     .have c:H p=none:=b;exact own p (N p c) c (Same.none so.ext c) (so.aH p c) ev (by delta z1r;simp only[yb k,ya m]) (λf E ho=>⟨p,ev,ho,.inl ⟨G,D,rfl,h,aD.bD D m rs⟩⟩) (.inl ⟨G,h⟩)
     .exact b.elim
    .exact A (by delta z1r;simp only[yb k,yb m]) λa b=>so.fH b
   |dict es=>
    by_cases m:bQ es=Z7
    .obtain⟨p,kvs,ev,h,b,rs⟩:=r;have c:=b;exact own p (N p c) c (Same.none so.ext c) (so.aH p c) ev (by delta z1r;simp only[yb k,ya m]) (λf E ho=>⟨p,ev,ho,.inr ⟨kvs,es,rfl,h,aS.bD es m rs⟩⟩) (.inr ⟨kvs,h⟩)
    .exact A (by delta z1r;simp only[yb k,yb m]) λa b=>so.fH b
theorem HY {K:Z5}{te:TE}(h:∀a H Q,tD K fa a H Q->te a H Q)(D:Ends)(a:L2.St)(H:Hp)(q:tDS K (λb=>fa b>>=λx=>.ok (.nx (b.set i (Z9 (z1r x))))) D a H):te a H λv c=>D.nx (a.set i (Z9 v)) c:=by obtain⟨b,F,g,so,e,q⟩:=q;obtain⟨x,j,e⟩:=Res.aA e;cases e;refine h a H _ ⟨b,F,x,so,j,λv c k l=>?_⟩;obtain⟨m,d,r,f⟩:=so.setA k l;exact q _ c m d r f
theorem zne (hN:X.N.Nodup)(b:X.N[i]?=Z9 x)(c:Loc X.env.scope x)(d:Sto X x)(hs:l7 e (Z9 (.Name x px)) pos.line X.env=pure Z6)(f:PE X e (tD X.K fa)):
  PS X (.Assign [.Name x px] e pos) (tDS X.K λa=>fa a>>=λx=>.ok (.nx (a.set i (Z9 (z1r x))))):=
 PS.imp (z9e hN b c f hs d) λD g H q=>HY (λ_ _ _ h=>h) D g H q
theorem zpk (j:PG X te (tDG X.K (.tp is)))(k:PE X e (tD X.K fa))(hs:uu [te] e pos.line X.env=pure Z6)(l:uw [te] e X.env=pure Z8)(m:(iy [te] X.env).map (·.2)=[vi te X.env]):
  PS X (.Assign [te] e pos) (tDS X.K λf=>fa f>>=λx=>dQ (.tp is) x f>>=λd=>.ok (.nx d)):=
 PS.imp (zq5 k j hs l m) λD y H ⟨f,F,p,so,e,q⟩=>by obtain⟨x,r,e⟩:=Res.aA e;obtain⟨d,s,e⟩:=Res.aA e;cases e;refine⟨f,F,x,so,r,λv t i u=>⟨f,F,x,d,so.same i,u.weak λ_ b=>BI.of so.aH b,s,λg w h c=>?_⟩⟩;exact q g t w h (Run.of c.h0 c.v c.z) λa o e n=>⟨i a o e,c.o a n⟩
theorem Dk {K:Z5}(so:StOk K F H σ ρ)(h:okIn y=Z7)(r:Rep K H1 (BG F H y.1) u y.2):Rep K H1 (Bin F) u y.2:=by
 obtain⟨g,d⟩:=y;rcases gz.mp h with hi|hg
 .exact Rep.bD d hi r
 rcases gz.mp hg with h|h
 .cases eq_of_beq h;exact Rep.weak (λa b=>so.fH b) r
 .cases eq_of_beq h;exact Rep.weak (λa b=>b.elim so.fH id) r
theorem StOk.mutate {K:Z5}(so:StOk K F H σ ρ)(hO:F.O p=Z9 i)(hσ:σ[i]?=Z9 (Z9 (.ref p)))(ho':(∃xs,o'=.lst xs)\/∃kvs,o'=.dK kvs)
  (hs:Slot K F (upd H p o') i .fr (.ref p) d'):StOk K F (upd H p o') σ ((ρ.set i (Z9 (.fr,d'))).map eQ)/\cO F H F (upd H p o'):=by
 obtain⟨h0,hV,Dl⟩:=so.own p i hO;have oN:∀a,F.O a=Z8->a≠p:=λa e z=>by rw[z,hO]at e;cases e
 have oO:∀a o,H a=Z9 o->Fix o->a≠p:=λa o e f z=>by subst z;rcases Dl with⟨xs,h⟩|⟨xs,h⟩<;>rw[e]at h<;>cases h<;>exact f
 refine⟨⟨λa o e=>?_,λa e=>?_,λa j e=>?_,by rw[ae,du];exact so.len,λj g d e=>?_⟩,(λa o e n=>⟨by rw[aB (oN a n)];exact e,n⟩)⟩
 .have rW:a≠p:=λz=>by rw[z,h0]at e;cases e
  rw[aB rW];exact so.ext a o e
 .by_cases rW:a=p
  .subst rW;exact hV
  .rw[aB rW]at e;exact so.aH a e
 .obtain⟨x1,x2,x3⟩:=so.own a j e;refine⟨x1,x2,?_⟩;by_cases rW:a=p
  .subst rW;rw[aT];rcases ho' with⟨xs,rfl⟩|⟨xs,rfl⟩
   .exact .inl ⟨xs,rfl⟩
   .exact .inr ⟨xs,rfl⟩
  .rw[aB rW];exact x3
 .rw[ar]at e;by_cases hj:i=j
  .subst hj;have hl:i<ρ.length:=by rw[<-so.len];exact(ba.mp hσ).1
   rw[gx]at e;simp only[if_true,hl]at e;cases(by simpa using e);exact⟨_,hσ,hs⟩
  .rw[df hj]at e;cases e2:ρ[j]? with
   |none=>rw[e2]at e;cases e
   |some sl=>
    rw[e2]at e;have e3:eQ sl=Z9 (g,d):=by simpa using e
    cases sl with
    |none=>cases e3
    |some gd=>
     obtain⟨g0,d0⟩:=gd;obtain⟨v,h1,h2⟩:=so.sl j g0 d0 e2;refine⟨v,h1,?_⟩;cases g0 with
     |fr=>
      cases e3;obtain⟨p',e4,o4,h3⟩:=h2;have ym:p'≠p:=λz=>by rw[z,hO]at o4;simp_all
      have hk:∀a o,H a=Z9 o->(Bin F (Z9 a)\/Fix o)->upd H p o' a=Z9 o:=λa o e b=>by have:a≠p:=b.elim (λb=>oN a b.1) λf=>oO a o e f;rw[aB this];exact e
      refine⟨p',e4,o4,?_⟩;rcases h3 with⟨vs,ds,e5,e6,r⟩|⟨vs,ds,e5,e6,r⟩
      .exact .inl ⟨vs,ds,e5,by rw[aB ym];exact e6,aD.keep hk (λ_ z=>z) ds r⟩
      .exact .inr ⟨vs,ds,e5,by rw[aB ym];exact e6,aS.keep hk (λ_ z=>z) ds r⟩
     |od=>cases e3;exact Rep.keep (λa o e b=>by have:a≠p:=b.elim (λb z=>by have b1:F.H0 a≠Z8/\F.V a:=b;rw[z]at b1;exact b1.1 h0) λf=>oO a o e f;rw[aB this];exact e) (λ_ z=>z) _ h2
     |nu=>cases e3;exact Rep.keep (λa o e b=>by have:a≠p:=b.elim (λb=>oN a b.1) λf=>oO a o e f;rw[aB this];exact e) (λ_ z=>z) _ h2
     |al=>
      change(if aL d0 then Z9 (G.al,d0)else Z8)=_ at e3;split at e3
      .rename_i him;cases e3;exact Rep.jT (λa o e f=>by rw[aB (oO a o e f)];exact e) _ him h2
      .cases e3
theorem Dm {K:Z5}(so:StOk K F H σ ρ)(e:ρ[i]?=Z9 (Z9 (.fr,d))):∃p,σ[i]?=Z9 (Z9 (.ref p))/\F.O p=Z9 i/\((∃vs ds,d=.list ds/\H p=Z9 (.lst vs)/\aD K H (Bin F) vs ds)\/(∃kvs es,d=.dict es/\H p=Z9 (.dK kvs)/\aS K H (Bin F) kvs es)):=by obtain⟨v,h1,p,rfl,o,h⟩:=so.sl i .fr d e;exact⟨p,h1,o,h⟩
def Dp (m:String)(i:Nat)(fs:Rho->Res (List GD)):Rho->Res Out:=λρ=>fs ρ>>=λys=>match ρ[i]? with
 |some (Z9 (.fr,.list xs))=>jS m xs ys>>=λCF=>.ok (.nx ((ρ.set i (Z9 (.fr,.list CF))).map eQ))
 |_=>.no
theorem zfh {fs:Rho->Res (List GD)}(hN:X.N[i]?=Z9 x)(C:Vis X.env.scope x)(hd:XX x)(l:(x==("__classdict__":Str))=Z6)(E:PA X (e::es) (tDA X.K fs))(g:((e::es).all fun e=>!isStar e)=Z7)(G:(e::es).length<20)(d:(I.endLine==J.line)=Z7):
  PS X (.Expr (.Call (.Attribute (.Name x p) "append" I) (e::es) [] J) pos) (tDS X.K (Dp "append" i fs)):=by
 have c:=g;rw[eg,cq]at c;refine PS.imp (lC (zgu PySem.F.plainAttrs_list PySem.F.slot_list_append PySem.F.type_list_append Cf (qQ hN C hd l) E rfl (z93 g G) d (eX (by simpa using c.1)) (nK c.2)) rfl) λD L H M=>?_;obtain⟨P,F,Q,so,e,q⟩:=M;obtain⟨R,S,e⟩:=Res.aA e;split at e
 .rename_i T hr;obtain⟨U,f,e⟩:=Res.aA e;cases e;obtain⟨pa,v,m,h⟩:=Dm so hr;rcases h with⟨j,ds,n,w,r⟩|⟨_,_,n,_⟩
  .cases n;refine⟨_,v,.inl ⟨rfl,j,SqL.of w⟩,P,F,R,so,S,λus V k rs=>?_⟩;simp only[jS,if_true]at f;split at f
   .rename_i y;split at f
    case isFalse=>cases f
    rename_i hc;cases f;rw[bn,decide_eq_true_iff]at hc;obtain⟨u,rfl,W⟩:=rs.one;have A:=k _ _ w;refine⟨pa,j,u,rfl,rfl,A,jX (by rw[r.length];omega),?_⟩
    have Y:aD X.K (upd V pa (.lst (j++[u]))) (Bin F) (j++[u]) (T++[y.2]):=by
     refine aD.keep (λa o e b=>?_) (λ_ z=>z) _ (aD.append (r.same k λ_ z=>z) ⟨u,[],rfl,Dk so hc.1 W,rfl⟩)
     have s:a≠pa:=by
      intro z;subst z;rcases b with b|b
      .have B:F.O a=none:=b.1;rw[m]at B;cases B
      .rw[A]at e;cases e;exact b
     rw[aB s];exact e
    obtain⟨t,Z⟩:=(so.same k).mutate m v (.inl ⟨_,rfl⟩) ⟨pa,rfl,m,.inl ⟨_,_,rfl,aT,Y⟩⟩;exact q L _ F t Run.refl ((cO.same k).trans Z)
   .cases f
  .cases n
 .cases e
end
section
variable {K:Z5}{H:Hp}{B B':Ad->Prop}
end
section
variable {K:Z5}{H:Hp}{Bz:Ad->Prop}{p:Addr}{zs:List D}{vz:List V}
end
section
variable {X:Cx}{tg a b c e:Expr}{es:List Expr}{fa fb fc:Rho->Res GD}{pos:Pos}{st:Stmt}{rest A Bs:List Stmt}{fs gs:Rho->Res Out}
theorem Dq (k c:Key):eqK (kD c) (kD k)=decide (c=k):=by
 cases c<;>cases k
 .rename_i a b;show(a==b)=_;rw[ni,decide_eq_decide];exact⟨λh=>by rw[h],λh=>Sum.inl.inj h⟩
 .rfl
 .rfl
 .rename_i a b;show decide (a=b)=_;rw[decide_eq_decide];exact⟨λh=>by rw[h],λh=>Sum.inr.inj h⟩
theorem aS.any {K:Z5}(k:Key):∀{kvs:List (Key×V)} {es:bF},aS K H B kvs es->(es.any λe=>eqK e.1 (kD k))=kvs.any λa=>decide (a.1=k)
 |kvs,[],r=>by have e:kvs=[]:=r;subst e;rfl
 |kvs,(kd,d)::es,r=>by obtain⟨c,v,t,e,b,_,_,q⟩:=r;subst e b;rw[lq,lq,q.any k,Dq]
theorem aS.lK {K:Z5}(k:Key)(h:Rep K H B v d):∀{kvs:List (Key×V)} {es:bF},aS K H B kvs es->aS K H B (kvs.map λa=>if a.1=k then(a.1,v)else a) (es.map λe=>if eqK e.1 (kD k)then(e.1,d)else e)
 |kvs,[],r=>by have e:kvs=[]:=r;subst e;exact rfl
 |kvs,(kd,d0)::es,r=>by
  obtain⟨b,f,t,e,g,ok,h0,q⟩:=r;subst e g;rw[br,br];have c:=q.lK k h;by_cases z:b=k
  .subst z;rw[ya rfl,ya (by rw[Dq];simp)];exact⟨b,v,_,rfl,rfl,ok,h,c⟩
  .rw[yb z,yb (by rw[Dq];simpa using z)];exact⟨b,f,_,rfl,rfl,ok,h0,c⟩
theorem aS.app {K:Z5}(ok:keyOk k)(h:Rep K H B v d):∀{kvs:List (Key×V)} {es:bF},aS K H B kvs es->aS K H B (kvs++[(k,v)]) (es++[(kD k,d)])
 |kvs,[],r=>by have e:kvs=[]:=r;subst e;exact⟨k,v,[],rfl,rfl,ok,h,rfl⟩
 |kvs,(kd,d0)::es,r=>by obtain⟨b,c,t,e,f,a,h0,q⟩:=r;subst e f;exact⟨b,c,_,rfl,rfl,a,h0,q.app ok h⟩
theorem aS.put {K:Z5}(ok:keyOk k)(h:Rep K H B v d){es:bF}(r:aS K H B kvs es):aS K H B (putK kvs k v) (dput es (kD k) d):=by
 unfold putK dput;rw[r.any k];split
 .exact r.lK k h
 .exact r.app ok h
def yn (td ty tv:TE):TS:=λD σ H=>tv σ H λv H1=>td σ H1 λx H2=>ty σ H2 λy H3=>(∃a H4,x=.ref a/\DPut H3 a y v H4/\D.nx σ H4)\/Cd x y v H3 λH4=>D.nx σ H4
theorem HZ (hu:X.A.units+1<cLine)(p:PE X o q)(t:PE X i ty)(w:PE X value tv)(hs:l7 value (Z9 (.Subscript o i d)) pos.line X.env=pure Z6):PS X (.Assign [.Subscript o i d] value pos) (yn q ty tv):=by
 intro b s c H D I h;refine wpAny_Assign_Subscript (aI (w b s c H _ I h) λr z ⟨v,B,C,k,E⟩=>aI (p b z c B _ C E) λu F ⟨x,G,J,l,K⟩=>aI (t b F c G _ J K) λL M ⟨y,N,m,n,e⟩=>?_) hs;rcases e with⟨a,f,ex,g,e⟩|e
 .subst ex;obtain rfl:u=ZS a:=l;exact zdq hu m g n k λO j=>⟨c,f,j,e⟩
 .exact aI (set_list b M c N x y v u L r _ m l n k e) λ_ O ⟨f,j,P⟩=>⟨c,f,j,P⟩
def Dr (i:Nat)(fv fk:Rho->Res GD):Rho->Res Out:=λρ=>fv ρ>>=λy=>fk ρ>>=λx=>match ρ[i]? with
 |some (Z9 (.fr,.dict es))=>if jM x.2&&okIn y&&decide (es.length<aZ)then .ok (.nx ((ρ.set i (Z9 (.fr,.dict (dput es x.2 y.2)))).map eQ))else .no
 |some (Z9 (.fr,.list xs))=>(match x.2 with
  |.int j=>if okIn y then(match iV xs.length j with|some n=>.ok (.nx ((ρ.set i (Z9 (.fr,.list (xs.set n y.2)))).map eQ))|none=>.no)else .no
  |_=>.no)
 |_=>.no
theorem zv1 (hu:X.A.units+64<cLine)(hN:X.N[i]?=Z9 x)(Y:Vis X.env.scope x)(hd:XX x)(J:(x==("__classdict__":Str))=Z6)(hs:z1j value=Z6)(hk:PE X Z (tD X.K fk))(L:PE X value (tD X.K fv)):
  PS X (.Assign [.Subscript (.Name x p) Z T] value pos) (tDS X.K (Dr i fv fk)):=by
 refine PS.imp (HZ (by omega) (qQ hN Y hd J) hk L (rH hs _ _ _)) λD U H zz=>?_;obtain⟨M,F,out,so,e,q⟩:=zz;obtain⟨y,e1,e⟩:=Res.aA e;obtain⟨P,V,e⟩:=Res.aA e;refine⟨M,F,y,so,e1,λv H1 Q rv=>?_⟩;have c:=so.same Q;split at e
 .rename_i es hr;split at e
  case isFalse=>cases e
  rename_i B;cases e;rw[cq,cq,decide_eq_true_eq]at B;obtain⟨f,E,l,h⟩:=Dm c hr;rcases h with⟨_,_,m,_⟩|⟨s,es',m,R,r⟩
  .cases m
  .cases m;refine⟨_,E,M,F,P,c,V,λw C d g=>.inl ?_⟩;obtain⟨k,ek,rfl,ok⟩:=yj B.1.1 g;have G:=d _ _ R;refine⟨f,_,rfl,DPut.k G (r.length▸cr B.2 (jX (ai _))),?_⟩
   have hk:∀a o,C a=Z9 o->(Bin F (Z9 a)\/Fix o)->upd C f (.dK (putK s k v)) a=Z9 o:=λa o e b=>by
    have t:a≠f:=by
     intro z;subst z;rcases b with b|b
     .have I:F.O a=none:=b.1;rw[l]at I;cases I
     .rw[G]at e;cases e;exact b
    rw[aB t];exact e
   have r':aS X.K (upd C f (.dK (putK s k v))) (Bin F) (putK s k v) (dput es P.2 y.2):=by rw[ek];exact aS.keep hk (λ_ z=>z) _ (aS.put ok (Dk so B.1.2 (rv.same d λ_ z=>z)) (r.same d λ_ z=>z))
   obtain⟨u,S⟩:=(c.same d).mutate l E (.inr ⟨_,rfl⟩) ⟨f,rfl,l,.inr ⟨_,_,rfl,aT,r'⟩⟩;exact q U _ F u Run.refl ((cO.same (Q.trans d)).trans S)
 .rename_i xs hr;split at e
  case h_2=>cases e
  rename_i j hj;split at e
  case isFalse=>cases e
  rename_i B;split at e
  case h_2=>cases e
  rename_i n hn;cases e;obtain⟨f,E,l,h⟩:=Dm c hr;rcases h with⟨W,ds,m,R,r⟩|⟨_,_,m,_⟩
  .cases m;refine⟨_,E,M,F,P,c,V,λw C d g=>.inr ?_⟩;rw[hj]at g;subst g;have G:=d _ _ R;refine⟨f,W,j,n,rfl,rfl,G,by rw[r.length];exact hn,?_⟩
   have hk:∀a o,C a=Z9 o->(Bin F (Z9 a)\/Fix o)->upd C f (.lst (W.set n v)) a=Z9 o:=λa o e b=>by
    have t:a≠f:=by
     intro z;subst z;rcases b with b|b
     .have I:F.O a=none:=b.1;rw[l]at I;cases I
     .rw[G]at e;cases e;exact b
    rw[aB t];exact e
   obtain⟨u,S⟩:=(c.same d).mutate l E (.inl ⟨_,rfl⟩) ⟨f,rfl,l,.inl ⟨_,_,rfl,aT,(aD.keep hk (λ_ z=>z) _ (aD.set (Dk so B (rv.same d λ_ z=>z)) n (r.same d λ_ z=>z)))⟩⟩;exact q U _ F u Run.refl ((cO.same (Q.trans d)).trans S)
  .cases m
 .cases e
def tDF (K:Z5)(f:Rho->Res (G×List D×Rho)):TI:=λσ H R=>∃ρ F w,StOk K F H σ ρ/\f ρ=.ok w/\∀J B H' F',Same H H'->Run F F'->cO F H F' H'->StOk K F' H' σ w.2.2->(∀a,B (Z9 a)->F'.O a=Z8)->(∀a,B a->BI F' w.1 a)->Walk K J B H' w.2.1->R J H'
theorem Ds {K:Z5}(so:StOk K F H i k){a:Addr}(f:g≠.al)(h:BG F H g (Z9 a)):F.O a=none:=by
 cases d:F.O a with
 |none=>rfl
 |some j=>
  obtain⟨h0,_,b⟩:=so.own a j d;cases g with
  |fr=>have c:=h;rcases b with⟨e,b⟩|⟨e,b⟩<;>rw[c]at b<;>cases b
  |od=>exact absurd h0 h.1
  |al=>exact absurd rfl f
  |nu=>
   rcases h with h|h
   .have c:H a=none:=h;rcases b with⟨e,b⟩|⟨e,b⟩<;>rw[c]at b<;>cases b
   .have c:F.O a=none:=h.1;rw[c]at d;cases d
theorem Ia (h:PI X i e (tDW X.K j)):PI X i e (tDF X.K λc=>j c>>=λw=>if w.1==.al then .no else .ok (w.1,w.2,c)):=
 PI.imp h λo H R ⟨c,F,w,so,e,q⟩=>by
  obtain⟨k,l,e⟩:=Res.aA e;refine⟨c,F,k,so,l,λJ B m d g n=>?_⟩;split at e
  .cases e
  .rename_i f;cases e;exact q J B m F d Run.refl (cO.same d) (so.same d) (λa b=>Ds so (λz=>f (by rw[z];rfl)) (g _ b).1) (λa b=>BI.of so.aH (g a b).1) n
theorem StOk.giveUp {K:Z5}(so:StOk K F H σ ρ)(e:ρ[i]?=Z9 (Z9 (.fr,d))):StOk K (F.drop i) H σ (ρ.set i (Z9 (.al,d))):=by
 obtain⟨v,h1,h2⟩:=so.sl i .fr d e;have:=so.lI (i:=i) (x:=(.al,d)) (h2.rep so.iN)
 have es:σ.set i (Z9 v)=σ:=by
  apply j7;intro j;by_cases hj:i=j
  .subst hj;rw[gx];simp only[if_true,(ba.mp h1).1];exact h1.symm
  .rw[df hj]
 rw[es]at this;exact this
theorem Pw (hN:X.N[i]?=Z9 x)(o:Vis X.env.scope x)(hd:XX x)(h:(x==("__classdict__":Str))=Z6):PI X T (.Name x pos) (tDF X.K (z5 i)):=by
 rintro c s t H R I ⟨U,F,w,so,e,q⟩
 unfold z5 at e;split at e
 .rename_i d hr;obtain⟨W,z,e⟩:=Res.aA e;cases e;obtain⟨v,A,C⟩:=so.sl i .fr d hr;refine aI (qQ hN o hd h c s t H (λu f=>u=v/\f=H) I ⟨v,A,rfl,rfl⟩) λu Y D=>?_;obtain⟨y,f,E,G,g,L⟩:=D;subst g L
  let B:Ad->Prop:=λa=>match a with|some a=>(F.drop i).O a=Z8/\F.V a|none=>False
  have M:Rep X.K f B y d:=by
   obtain⟨p,g,l,P⟩:=C
   have m:∀a,Bin F a->B a:=λa b=>by
    cases a with
    |none=>exact b
    |some a=>exact⟨Fm.bH b.1,b.2.2⟩
   have n:B (Z9 p):=⟨by show(if F.O p=Z9 i then Z8 else F.O p)=Z8;rw[ya l],so.iN p i l⟩;rcases P with⟨j,Q,rfl,k,r⟩|⟨j,Q,rfl,k,r⟩
   .exact⟨p,j,g,.inl ⟨k,n⟩,r.weak m⟩
   .exact⟨p,j,g,k,n,aS.same (λ_ _ e=>e) m r⟩
  refine z2o E G M z λJ S=>q J B f (F.drop i) (Same.refl _) (Run.of rfl rfl rfl) (cO.drop (Same.refl _)) (so.giveUp hr) (λa b=>b.1) (λa b=>?_) S;cases a with
  |none=>exact b.elim
  |some a=>exact b.2
 .cases e
def Fm.lM (F:Fm)(H:Hp):Fm:={F with O:=λa=>match H a with|some (.dK _)=>F.O a|_=>Z8}
theorem Fm.gP {F:Fm}{a:Addr}(h:F.O a=Z8):(F.lM H).O a=none:=by
 unfold Fm.lM
 dsimp only
 split<;>first|exact h|rfl
theorem StOk.lM {K:Z5}(so:StOk K F H q l):StOk K (F.lM H) H q (l.map CD) where
 ext:=so.ext
 aH:=so.aH
 own:=λa i e=>by
  have c:F.O a=Z9 i:=by
   unfold Fm.lM at e
   dsimp only at e
   split at e
   .exact e
   .cases e
  exact so.own a i c
 len:=by rw[ae];exact so.len
 sl:=λi g d e=>by
  rw[ar]at e;cases h:l[i]? with
  |none=>rw[h]at e;cases e
  |some o=>
   rw[h]at e;have c:CD o=Z9 (g,d):=by simpa using e
   cases o with
   |none=>cases c
   |some gd=>
    obtain⟨m,d0⟩:=gd;obtain⟨v,s,f⟩:=so.sl i m d0 h;refine⟨v,s,?_⟩
    have n:∀a,Bin F a->Bin (F.lM H) a:=λa b=>by
     cases a with
     |none=>exact b
     |some a=>exact⟨Fm.gP b.1,b.2.1,b.2.2⟩
    cases m with
    |od=>cases c;exact f
    |al=>cases c;exact f
    |nu=>cases c;exact Rep.weak n f
    |fr=>
     obtain⟨p,ev,t,u⟩:=id f;rcases u with⟨y,w,rfl,j,r⟩|⟨kvs,es,rfl,j,r⟩
     .have k:Z9 (G.al,ZW w)=Z9 (g,d):=c;cases k;have x:=Slot.rep so.iN f;exact x
     .have k:Z9 (G.fr,PyData.dict es)=Z9 (g,d):=c;cases k;refine⟨p,ev,?_,.inr ⟨kvs,es,rfl,j,aS.same (λ_ _ z=>z) n r⟩⟩;unfold Fm.lM
      dsimp only
      rw[j];exact t
theorem Dt (A:PE X e (tD X.K fa)):PI X tg e (tDF X.K λk=>fa k>>=λx=>lE x k):=by
 rintro j s C H R I ⟨k,F,w,so,c,q⟩
 obtain⟨⟨g,d⟩,D,c⟩:=Res.aA c;unfold lE at c
 dsimp only at c
 split at c
 .rename_i l;split at c
  .rename_i E;cases c;refine aI (A j s C H (λv f=>Same H f/\Rep X.K f (BG F H g) v (.list l)) I ⟨k,F,_,so,D,λv f u m=>⟨u,m⟩⟩) λv u G=>?_;obtain⟨y,f,L,M,i,m⟩:=G
   let B:Ad->Prop:=λa=>match a with|some a=>(F.lM f).O a=Z8/\F.V a|none=>F.z
   have t:Rep X.K f B y (.list l):=by
    obtain⟨p,N,P,h,r⟩:=m;refine⟨p,N,P,?_,aD.bD l E r⟩;rcases h with⟨h,b⟩|⟨h,b⟩
    .refine .inl ⟨h,?_,(BG.aH so.aH b:bI F (Z9 p))⟩;unfold Fm.lM
     dsimp only
     rw[h]
    .exact .inr ⟨h,(BG.aH so.aH b:bI F Z8)⟩
   refine z2o L M t rfl λJ Q=>q J B f (F.lM f) i (Run.of rfl rfl rfl) (λa o e n=>⟨i a o e,Fm.gP n⟩) ((so.same i).lM) (λa b=>b.1) (λa b=>?_) Q;cases a with
   |none=>exact b
   |some a=>exact b.2
  .cases c
 .cases c
theorem PI.Ib {k:Rho->Bool}(hf:PI X tg e (tDF X.K f))(hg:PI X tg e (tDF X.K g)):PI X tg e (tDF X.K λρ=>if k ρ then f ρ else g ρ):=by
 rintro pins s σ H R I ⟨ρ,F,w,so,e,q⟩
 dsimp only at e
 cases hk:k ρ with
 |true=>exact hf pins s σ H R I ⟨ρ,F,w,so,by rw[ya hk]at e;exact e,q⟩
 |false=>exact hg pins s σ H R I ⟨ρ,F,w,so,by rw[yb (hk▸gp)]at e;exact e,q⟩
theorem ztq (hp:ji (model X.prog X.w) X.A X.env X.xe)(hc:X.calm=Z7)(L:PI X tg iter (tDF X.K fw))(hg:PG X tg (tDG X.K t))(hb:PSs X M (tDS X.K fs))(hs:∀x,im iter X.env x=pure x):
  PS X (.For tg iter M [] pos) (tDS X.K λU=>fw U>>=λw=>cX (λx E=>dQ t (gJ x w.1,x) E>>=λc=>fs c) w.2.1 w.2.2):=
 PS.imp (z8b hp hc L hg hb hs) λD σ H ⟨U,F,Y,so,e,q⟩=>by
  obtain⟨w,e1,e⟩:=Res.aA e;refine⟨U,F,w,so,e1,λJ B H1 k s1 r1 f1 N Px Py wk=>?_⟩;have q1:=q.back r1 f1;generalize hf:(λx E=>dQ t (gJ x w.1,x) E>>=λc=>fs c)=f at e
  have kp:∀{l:Fm} {r:Hp},cO k H1 l r->Kp B H1 r:=λ{l r} fr a o e b=>by
   have hO:k.O a=none:=by
    rcases b with b|b
    .exact Px a b
    .cases h:k.O a with
     |none=>rfl
     |some j=>obtain⟨_,_,P⟩:=N.own a j h;rcases P with⟨xs,P⟩|⟨xs,P⟩<;>rw[e]at P<;>cases P<;>exact b.elim
   exact(fr a o e hO).1
  let W:Nat->Nat->L2.St->Hp->Prop:=λi m G r=>m=w.2.1.length-i/\i<=w.2.1.length/\∃c l,StOk X.K l r G c/\Run k l/\cO k H1 l r/\cX f (w.2.1.drop i) c=.ok Y
  refine⟨W,⟨_,rfl,cy _,w.2.2,k,N,Run.refl,cO.refl,e⟩,?_⟩
  rintro i m G r ⟨rfl,Pz,c,l,Q,I,R,h⟩
  by_cases s:i<w.2.1.length
  .refine .inr ⟨wk.go r (kp R) i s,W (i+1) (w.2.1.length-(i+1)),λσ' H' p=>⟨_,by omega,p⟩,λx H3 y=>?_⟩;obtain⟨s3,d,hd,rx⟩:=wk.gG r (kp R) i x H3 s y
   have PB:w.2.1.drop i=d::w.2.1.drop (i+1):=by
    rw[lg s];have:w.2.1[i]=d:=by rw[am s]at hd;simp_all
    rw[this]
   rw[PB]at h;simp only[cX]at h
   have Dh:Rep X.K H3 (BI l (gJ d w.1)) x d:=by
    have PD:∀g a,BI k g a->BI l g a:=λg a b=>by cases g<;>cases a<;>first|exact b|(have C:k.V _:=b;rw[<-I.2.1]at C;exact C)|(have C:k.z:=b;rw[<-I.2.2]at C;exact C)|(have C:k.H0 _≠Z8/\k.V _:=b;exact⟨λz=>C.1 (none_of I.1 z),by rw[I.2.1];exact C.2⟩)
    unfold gJ;by_cases L:aL d=Z7
    .rw[ya L];exact Rep.bD d L rx
    .rw[yb L];exact rx.weak λa b=>PD _ _ (Py a b)
   cases T:f d c with
   |no=>rw[T]at h;cases h
   |exc z=>rw[T]at h;cases h
   |ok o1=>
    obtain⟨S,e4,e5⟩:=Res.aA (by rw[<-T,<-hf]);rw[T]at h;refine⟨c,l,(gJ d w.1,d),S,Q.same s3,Dh,e4,λjL F4 Aj u=>⟨S,F4,o1,Aj,e5,?_⟩⟩;have r4:=I.trans (Run.of u.h0 u.v u.z);have f4:=R.trans λa o e n=>⟨s3 a o e,u.o a n⟩;cases o1 with
    |nx PF=>exact λσ' H' F' PH r' f'=>⟨rfl,s,PF,F',PH,r4.trans r',f4.trans f',h⟩
    |rt g d=>cases h;exact(q1.back r4 f4:yl X.K F4 H3 D (.rt g d))
  .have PJ:i=w.2.1.length:=by omega
   subst PJ;rw[List.drop_length]at h;cases h;exact .inl ⟨wk.stop r (kp R),q1 G r l Q I R⟩
end
def rAgg (K:Z5)(f:String):List V->Hp->VK->Prop:=λxs H Q=>∃B x dx l ys d,xs=[x]/\Rep K H B x dx/\z55 dx=.ok (l,ys)/\aggD f l ys=.ok d/\∀w H',Same H H'->Rep K H' (λa=>nw H a\/(imms ys=Z6/\B a)) w d->Q w H'
theorem rX {K:Z5}(r:Rep K H B x dx)(e:z55 dx=.ok (l,c)):∃a b,x=.ref a/\(if l then SqL K H a b else bN K H a b)/\aD K H B b c:=by
 cases dx<;>try (cases e;done)
 .cases e;obtain⟨a,b,rfl,h,q⟩:=mH r;exact⟨a,b,rfl,h,q⟩
 .cases e;obtain⟨a,b,rfl,h,q⟩:=r;exact⟨a,b,rfl,h,q⟩
theorem aD.rY {K:Z5}(r:aD K H B c b):aD K H (λa=>nw H a\/(imms b=Z6/\B a)) c b:=by
 cases d:imms b with
 |true=>exact aD.bD b d r
 |false=>exact r.weak λ_ z=>.inr ⟨rfl,z⟩
section
variable {X:Cx}{e:Expr}{fa:Rho->Res GD}{pos:Pos}
theorem zhw (so:StOk X.K F H l j)(e:((fa j>>=fun x=>z55 x.2>>=fun p=>Res.ok (x.1,p))>>=fun w=>aggD f w.2.1 w.2.2>>=fun d=>Res.ok ((gJ d (if imms w.2.2 then .fr else agG w.1),d):GD))=.ok z)(q:∀v g,Same H g->Rep X.K g (BG F H z.1) v z.2->Q v g):
  mZ (rAgg X.K f) (pK (tD X.K fa) iK) l H Q:=by
 obtain⟨w,b,e⟩:=Res.aA e;obtain⟨x,m,b⟩:=Res.aA b;obtain⟨p,n,b⟩:=Res.aA b;cases b;obtain⟨d,o,e⟩:=Res.aA e;cases e;refine⟨j,F,x,so,m,λv A c r=>⟨_,v,x.2,p.1,p.2,d,rfl,r,n,o,λs t u i=>q s t (c.trans u) (pN i λa h=>?_)⟩⟩;cases y:imms p.2 with
 |true=>
  rcases h with h|⟨h,_⟩
  .exact nw.back c h
  .rw[y]at h;cases h
 |false=>
  have al:bI F a:=by
   rcases h with h|⟨_,h⟩
   .exact(nw.back c h).aH so.aH
   .exact h.aH so.aH
  cases k:x.1 with
  |fr=>
   rcases h with h|⟨_,h⟩
   .exact nw.back c h
   .rw[k]at h;exact h
  |od=>exact al
  |al=>exact al
  |nu=>
   rcases h with h|⟨_,h⟩
   .exact .inl (nw.back c h)
   .rw[k]at h;exact h
theorem PL:CallR X (.type "list") (rAgg X.K "list"):=by
 refine CallR.imp NT λi H Q h=>?_;obtain⟨B,x,dx,l,j,d,rfl,r,e,f,q⟩:=h;obtain⟨a,b,rfl,h,rs⟩:=rX r e;cases f
 have g:SqL X.K H a b\/bN X.K H a b:=by
  cases l with
  |true=>exact .inl h
  |false=>exact .inr h
 refine⟨a,b,rfl,g,λp c=>q _ _ (Same.upd c) (rU c rs.rY (λ_ z=>z) (.inl c))⟩
theorem PM:CallR X (.type "tuple") (rAgg X.K "tuple"):=by
 refine CallR.imp NU λg H Q h=>?_;obtain⟨B,x,dx,l,i,d,rfl,r,e,f,q⟩:=h;obtain⟨a,b,rfl,h,rs⟩:=rX r e;cases f;refine⟨a,b,rfl,?_⟩;cases l with
 |true=>exact .inl ⟨h,λp c=>q _ _ (Same.upd c) (Ae c rs.rY λ_ z=>z)⟩
 |false=>exact .inr ⟨h,q _ H (Same.refl H) ⟨a,b,rfl,h,rs.rY⟩⟩
theorem Du {K:Z5}:∀{a:List D} {bs:List Bool} {b:List V},allB a=Z9 bs->aD K H B b a->b=bs.map V.bl
 | [],bs,b,e,r=>by cases e;exact r
 |d::a,bs,b,e,r=>by
  cases d<;>try (cases e;done)
  simp only[allB]at e;cases c:allB a with
  |none=>rw[c]at e;cases e
  |some f=>rw[c]at e;cases e;obtain⟨v,t,rfl,g,h⟩:=r;rw[g,Du c h];rfl
theorem Ic {K:Z5}:∀{a:List D} {n:Int} {c:List V},fW a=Z9 n->aD K H B c a->∃ns:List Int,c=ns.map V.int/\ns.sum=n
 | [],n,c,e,r=>by cases e;exact⟨[],r,rfl⟩
 |d::a,n,c,e,r=>by
  cases d<;>try (cases e;done)
  rename_i b;change(fW a).map (b+ ·)=_ at e;cases f:fW a with
  |none=>rw[f]at e;cases e
  |some m=>rw[f]at e;cases e;obtain⟨v,t,rfl,g,h⟩:=r;obtain⟨ns,i,j⟩:=Ic f h;exact⟨b::ns,by rw[g,i];rfl,by rw[List.sum_cons,j]⟩
theorem PN (f:X.calm=Z7):CallR X (.builtin "all") (rAgg X.K "all"):=by
 refine CallR.imp (Og f) λj H Q h=>?_;obtain⟨B,x,k,l,g,d,rfl,r,e,b,q⟩:=h;obtain⟨a,m,rfl,h,i⟩:=rX r e;simp only[aggD,show("all":String)≠"list" by decide,show("all":String)≠"tuple" by decide,show("all":String)≠"sorted" by decide,show("all":String)≠"sum" by decide,if_true,if_false]at b;cases l with
 |false=>cases b
 |true=>
  cases c:allB g with
  |none=>rw[c]at b;cases b
  |some bs=>rw[c]at b;cases b;have ev:=Du c i;subst ev;exact⟨a,bs,rfl,h,q _ H (Same.refl H) rfl⟩
theorem PQ (e:X.calm=Z7):CallR X (.builtin "sum") (λa H Q=>∃(p:Addr) (ns:List Int),a=[.ref p]/\SqL X.K H p (ns.map V.int)/\Q (.int ns.sum) H):=by
 rintro c s h H a i Q I r ⟨p,ns,rfl,f,q⟩
 obtain⟨u,rfl,rfl⟩:=vals1 r;obtain⟨b,rv,pl,j⟩:=I.list f;have d:ug b.toArray.toList ns:=intsAre_of rv;have hl:=pl.isList;obtain⟨a,ex⟩:=d.allInts.items;have hn:=d.numsOf;rw[ex]at hl hn;refine sum_intListG (I.ok.hd e) hl λk l g hk=>⟨.int ns.sum,H,I.kept hk,⟨g,?_⟩,q⟩;rw[preSum_eq,fj (by simp)];rw[nums_intItems]at hn;rw[hn]
theorem PR (f:X.calm=Z7):CallR X (.builtin "sum") (rAgg X.K "sum"):=by
 refine CallR.imp (PQ f) λj H Q h=>?_;obtain⟨B,x,k,l,g,d,rfl,r,e,b,q⟩:=h;obtain⟨a,m,rfl,h,i⟩:=rX r e;simp only[aggD,show("sum":String)≠"list" by decide,show("sum":String)≠"tuple" by decide,show("sum":String)≠"sorted" by decide,if_true,if_false]at b;cases l with
 |false=>cases b
 |true=>
  cases c:fW g with
  |none=>rw[c]at b;cases b
  |some n=>rw[c]at b;cases b;obtain⟨ns,ev,en⟩:=Ic c i;subst ev en;exact⟨a,ns,rfl,h,q _ H (Same.refl H) rfl⟩
theorem zin (hc:CallR X (.type f) (rAgg X.K f))(hm:X.mg x=Z8)(c:db x=Z9 (.type f))(hs:isStar y=Z6)(g:PE X y (tD X.K fa))(h:Gl X x)(hn:x≠"__name__")(a:XX x):
  PE X (.Call (.Name x p) [y] [] pos) (tD X.K λb=>(fa b>>=λx=>z55 x.2>>=λp=>Res.ok (x.1,p))>>=λw=>aggD f w.2.1 w.2.2>>=λd=>.ok (gJ d (if imms w.2.2 then .fr else agG w.1),d)):=
 PE.imp (z3 hc hm c (cV g hU hs) (by simp[hs]) h hn a) λi H Q ⟨b,F,z,so,e,q⟩=>zhw so e q
theorem zc0 (hc:CallR X (.builtin f) (rAgg X.K f))(hm:X.mg x=Z8)(c:db x=Z9 (.builtin f))(hs:isStar y=Z6)(g:PE X y (tD X.K fa))(h:Gl X x)(hn:x≠"__name__")(a:XX x):
  PE X (.Call (.Name x p) [y] [] pos) (tD X.K λb=>(fa b>>=λx=>z55 x.2>>=λp=>Res.ok (x.1,p))>>=λw=>aggD f w.2.1 w.2.2>>=λd=>.ok (gJ d (if imms w.2.2 then .fr else agG w.1),d)):=
 PE.imp (uG hc hm c (cV g hU hs) (by simp[hs]) h hn a) λi H Q ⟨b,F,z,so,e,q⟩=>zhw so e q
end
structure NoKeys (T id:String):Prop where
 own:PySem.Slot T "__getattribute__" id
 entry:wv table id=some Builtin.«object.__getattribute__»
 two:∀a b:Value,argsOk id {pos:=[a,b]}
 rest:xv (.type T) "__getattr__"=pure Z8
 miss:∀(a:Addr) (xs:Array Value) (k:Nat) (sl:Array (Option Value)) (u:Tok),Meets (Builtin.«object.__getattribute__» {pos:=[.ref a,.str "keys" u]}) λA R s=>s.heap.get? a=some {cls:=.type T,data:=.seq xs k,slots:=sl}/\raisesAttr (.ref a) "keys" A R s
theorem PU:NoKeys "list" "list.__getattribute__" where
 own:=F.slot_list_getattribute
 entry:=am_entry_list_getattribute
 two:=F.args_list_getattribute_2
 rest:=am_list_getattr_none
 miss:=λa b k sl u=>meets_getattribute_miss_list a b k sl "keys" u (by rw[pb];kernel_rfl) (by decide) (by size_fits)
theorem PV:NoKeys "tuple" "tuple.__getattribute__" where
 own:=F.slot_tuple_getattribute
 entry:=am_entry_tuple_getattribute
 two:=F.args_tuple_getattribute_2
 rest:=am_tuple_getattr_none
 miss:=λa b k sl u=>meets_getattribute_miss_tuple a b k sl "keys" u (by rw[pb];kernel_rfl) dc (by size_fits)
theorem NoKeys.ask {T id:String}(N:NoKeys T id){prog:cg}{w:World}{A:d8}{E:Value->aq->Prop}{s:aq}{a:Addr}{o:Obj}{i:Array Value}{k:Nat}{Q:Option Value->aq->Prop}
  (j:s.heap.get? a=Z9 o) (hc:o.cls=.type T) (d:o.data=.seq i k) (hd:o.dict=Z8) (m:A.handled=Z8)
  (h:∀l n e,uy s.heap l e "AttributeError"->Q Z8 {s with heap:=l,toks:=n}):
  wpAny (model prog w) A (ww (.ref a) "keys") Q E s:=by
 cases o;cases hc;cases d;cases hd;cases s;rename_i b heap f c toks os;have ty:∀t,(⟨heap,f,c,t,os⟩:aq).TypeIs (.ref a) T:=λt=>⟨_,j,rfl⟩;have p:=sub_AttributeError;have n1:=N.own.lookup;have n2:=N.own.bind (.ref a);have n3:=N.rest
 delta ww getAttrBy? getAttrBy
 repeat' (first|assumption|exact ty _|(apply sj N.own (ty _) N.entry (N.two _ _) (N.miss a i k b _))|wp_step)
 refine⟨j,m,λq r ex nx=>?_⟩;obtain⟨u,v,there⟩:=nx.there;have g:=λt=>h _ t _ nx.of
 dsimp only[wants]
 delta getattributeRaised
 repeat' (first|assumption|apply g|wp_step)
theorem PX
 (d:s.heap.get? a=Z9 o) (hc:o.cls=.type "list") (b:o.data=.seq i k) (hd:o.dict=Z8) (f:A.handled=Z8) (h:∀c g e,uy s.heap c e "AttributeError"->Q Z8 {s with heap:=c,toks:=g}):
 wpAny (model prog w) A (ww (.ref a) "keys") Q E s:=PU.ask d hc b hd f h
theorem PY
 (d:s.heap.get? a=Z9 o) (hc:o.cls=.type "tuple") (b:o.data=.seq i k) (hd:o.dict=Z8) (f:A.handled=Z8) (h:∀c g e,uy s.heap c e "AttributeError"->Q Z8 {s with heap:=c,toks:=g}):
 wpAny (model prog w) A (ww (.ref a) "keys") Q E s:=PV.ask d hc b hd f h
abbrev uO (X:Cx)(A:d8)(E:Value->aq->Prop):Cx:={X with A:=A,xe:=E}
theorem _root_.L2.Inv.uO (I:Inv X a b H s)(hd:A.handled=X.A.handled)(hf:A.frames=X.A.frames):Inv (uO X A E) a b H s:=⟨⟨I.ok.mod,I.ok.kind,I.ok.glob,I.ok.blt,I.ok.above,I.ok.inj,I.ok.has,I.ok.mX,λz=>hd.trans (I.ok.hd z),hf.trans I.ok.frames,I.ok.pJ,I.ok.gA,I.ok.bs,I.ok.iG,I.ok.fO,I.ok.fP,I.ok.bV,I.ok.kU,I.ok.zR⟩,I.os,I.bare,I.base,I.loc,I.cell,I.free,I.freeC,I.pin,I.hok,I.len,I.fx⟩
theorem _root_.L2.Inv.Dv (ok:X.Ok)(I:Inv (uO X A E) a b H s):Inv X a b H s:=⟨ok,I.os,I.bare,I.base,I.loc,I.cell,I.free,I.freeC,I.pin,I.hok,I.len,I.fx⟩
namespace F
theorem entry_dict_loop:wv table "dict.update.loop"=some Builtin.«dict.update.loop»:=entryFor_of_tree (by kernel_rfl)
theorem aO:plainId "dict.update.loop"=true:=by decide+kernel
end F
section
variable {X:Cx}{pins:List (Addr×Obj)}{σ:L2.St}
theorem PZ (p:IsTup s.heap a b.toArray)(h:Q b s):wpAny (model prog w) A (Builtin.Dict.pairItems (.ref a)) Q E s:=by have c:=p.typeIs;obtain⟨o,d,hc,n,hd⟩:=p;apply ac;refine kz c ?_;apply ac;refine gn d hd ?_;apply ah;simpa using h
theorem zts (hc:X.calm=Z7)(hA:X.A=A.in1)(T:Turn X.prog X.w X.K (.Name x0 p0) J fp it tn)(P:Walk X.K J B H1 p)(V:¬B (Z9 d)):
  ∀n i s H kvs (es:bF) t W,p.length-i=n->i<=p.length->Inv X c Y H s->tn i s.heap->(∀b∈fp,FpOk X c H b)->H d=Z9 (.dK kvs)->kvs.length<=i->aS X.K H B kvs es->jN es (p.drop i)=Z9 Z->Kp B H1 H->
   (∀Q C f,Inv X c Y C Q->C d=Z9 (.dK f)->aS X.K C B f Z->(∀a o,a≠d->H a=Z9 o->C a=Z9 o)->R (.ok (.ret .none)) Q)->
   ku (model X.prog X.w) A (.builtin "dict.update.loop" ⟨[.ref d,.ref it,.int W t,.none],[]⟩) R s:=by
 intro n
 induction n with
 |zero=>
  intro i s H kvs es t W hn hi I st fo hd hl rs l kp hR;have e:i=p.length:=by omega
  subst e;refine g7 F.entry_dict_loop ?_;rw[Around.under_plainId F.aO _,<-hA];refine ac (aI (T.done X rfl rfl rfl hc _ c s Y H _ I fo st (P.stop H kp)) λr S D=>?_);obtain⟨rfl,I1⟩:=D;rw[List.drop_length]at l;cases l;exact ac (ah (ah (hR S H kvs I1 hd rs λ_ _ _ e=>e)))
 |succ n ih=>
  intro i s H kvs es t W hn hi I st fo hd hl rs l kp hR;have g:i<p.length:=by omega
  refine g7 F.entry_dict_loop ?_;rw[Around.under_plainId F.aO _,<-hA];refine ac (aI (T.item X rfl rfl rfl hc i c s Y H _ I fo st (P.go H kp i g)) λr S D=>?_);obtain⟨u,rfl,h4⟩:=D;have key:∀(m:Sem PySem.Fin) Q' E',wpAny (model X.prog X.w) X.A (j2 (.Name x0 p0) (.ref it) u>>=λ_=>m) Q' E' S->wpAny (model X.prog X.w) X.A m Q' E' S:=λm Q' E' h=>h;refine key _ _ _ (ac (aI h4 λ_ s5 D=>?_));obtain⟨x,U,I5,r5,y5,v,Cu⟩:=D;obtain⟨sm,di,E,rx⟩:=P.gG H kp i x U g y5;have ed:p.drop i=di::p.drop (i+1):=by rw[lg g];rw[am g]at E;cases E;rfl
  rw[ed]at l;unfold jN at l;split at l
  case h_2=>cases l
  rename_i kd vd;split at l
  case isFalse=>cases l
  rename_i hk;obtain⟨a,vs,rfl,sq,oP⟩:=rx;obtain⟨vk,G,rfl,rk,rv⟩:=C9 oP;cases r5;obtain⟨its,L,pt,_⟩:=I5.tuple sq;obtain⟨uk,uv,rfl,P0,P4⟩:=vals2 L;have M:=I5.pinned (λb j=>⟨Cu b j,(fo b j).2⟩) (T.obj _ _ v);have y:=sm _ _ hd;obtain⟨k,rfl,rfl,ok⟩:=yj hk rk;obtain⟨z,P5,P6,rel,dd⟩:=zg9 M.hok y;have Ie:P6.length<=bh:=rel.length▸z;have hz:=P.len;have P7:(putK kvs k G).length<=i+1:=by have:=B9 kvs k G;omega
  refine ac (dz (ac (wpAny_tryCatch (PZ pt ?_))));refine dz (wpAny_dictSet_pairs (rC P0) dd λh' N hs=>?_);have I6:=z78 (t':=s5.toks+1) M (y▸True.intro) hs (let⟨q,_,_,hq,_⟩:=N;⟨q,hq⟩) (G' (by omega) P5 (rel.put k P4) N)
  have O:Kp B U (upd U d (.dK (putK kvs k G))):=λb o e z=>by
   have:b≠d:=by
    rintro rfl
    rcases z with z|z
    .exact V z
    .rw[y]at e;cases e;exact z
   rw[aB this];exact e
  refine ah ⟨j3 F.aO _,?_⟩;refine ih (i+1) _ (upd U d (.dK (putK kvs k G))) (putK kvs k G) (dput es (kD k) vd) _ _ (by omega) g I6.bO ?_ ?_ aT P7 ?_ l ?_ ?_
  .exact T.keep _ _ _ v λb j o e=>(I6.pin (b,o) (bg _ (bg _ (uA j e)))).1
  .intro b j;obtain⟨o,e,_⟩:=T.obj _ _ v b j;exact⟨(I6.pin (b,o) (bg _ (bg _ (uA j e)))).2.1,(fo b j).2⟩
  .exact aS.keep O (λ_ z=>z) _ (aS.put ok rv (rs.same sm λ_ z=>z))
  .exact λb o e z=>O b o (sm b o (kp b o e z)) z
  .intro Q C f I' nI P8 ext;refine hR Q C f I' nI P8 λb o j e=>ext b o j ?_;rw[aB j];exact sm b o e
theorem P9 {K:Z5}(s:Same H b)(h:SqL K H a c):SqL K b a c:=by
 rcases h with(h|⟨o,h⟩)|h
 .exact .inl (.inl (s _ _ h))
 .exact .inl (.inr ⟨o,s _ _ h⟩)
 .exact .inr h
theorem P' (es:bF)(k v:D)(a:bQ es=Z7)(h:aL v=Z7):bQ (es++[(k,v)])=true:=by
 unfold bQ at *
 rw[List.all_append,a];simp[h]
theorem Qa (k v:D)(a:aL v=Z7)(es:bF)(h:bQ es=Z7):bQ (es.map λe=>if eqK e.1 k then(e.1,v)else e)=true:=by
 unfold bQ at *
 rw[cx]at *
 intro e b;obtain⟨c,d,rfl⟩:=av.mp b;split
 .exact a
 .exact h c d
theorem Ig:∀(b:List D) es a,imms b=Z7->bQ es=Z7->jN es b=Z9 a->bQ a=Z7
 | [],es,a,_,h,e=>by cases e;exact h
 |y::b,es,a,c,d,e=>by
  simp only[imms,cq]at c;unfold jN at e;split at e
  case h_2=>cases e
  rename_i k v;split at e
  case isFalse=>cases e
  have f:aL v=true:=by have:=c.1;change(aL k&&(aL v&&Z7))=Z7 at this;simp only[cq]at this;exact this.2.1
  refine Ig b _ a c.2 ?_ e;unfold dput;split
  .exact Qa k v f es d
  .exact P' es k v d f
theorem Qb (hc:X.calm=Z7):CallR X (.type "dict") (rAgg X.K "dict"):=by
 rintro c s U H xs us Q I r ⟨B,x,dx,l,p,d,rfl,rx,e,G,q⟩
 obtain⟨a,vs,rfl,L,rs⟩:=rX rx e
 have e3:∃f,jN [] p=Z9 f/\d=.dict f:=by
  simp only[aggD,show("dict":String)≠"list" by decide,show("dict":String)≠"tuple" by decide,show("dict":String)≠"sorted" by decide,show("dict":String)≠"sum" by decide,show("dict":String)≠"all" by decide,show("dict":String)≠"any" by decide,if_true,if_false]at G;cases h:jN [] p with
  |none=>rw[h]at G;cases G
  |some es=>rw[h]at G;cases G;simp_all
 obtain⟨f,em,rfl⟩:=e3;have ew:z5f dx=.ok p:=by cases dx<;>first|(cases e;done)|(cases e;rfl)
 obtain⟨u,rfl,rfl⟩:=vals1 r;have t:=I.hok.fresh (ai _);have V:Inv X c U (upd H s.heap.objs.size (.dK [])) {s with heap:=s.heap.push {cls:=.type "dict",data:=.dict #[]}}:=I.laid (λ_ _ q=>af _ q) (ai _) (Hc s.heap I.big);refine callType_codes (Q₁:=λobj j=>obj=.ref s.heap.objs.size/\j={s with heap:=s.heap.push {cls:=.type "dict",data:=.dict #[]}}) PySem.F.kt_called_dict (PySem.F.kt_typeCall_dict_1 _) PySem.F.entry_dict_init (kt_code_dict_new _ ⟨rfl,rfl⟩) ?_
 rintro obj j ⟨rfl,rfl⟩
 have k:(⟨s.heap.push {cls:=.type "dict",data:=.dict #[]},s.gens,s.drawn,s.toks,s.os⟩:aq).TypeIs (.ref s.heap.objs.size) "dict":=⟨_,ax _ rfl,rfl⟩;refine⟨k,PySem.F.args_dict_init_2 _ _,?_⟩
 delta Builtin.«dict.__init__»
 refine ac ?_
 delta Builtin.Dict.selfAndRest
 refine ac (wpAny_notOrdered_dict k ?_);refine ah ?_;show wpAny _ _ (qy "dict.__init__" s.heap.objs.size (.ref a) [] .none) _ _ _
 delta qy
 have rest:∀m v,(∀b o,(s.heap.push {cls:=.type "dict",data:=.dict #[]}).get? b=Z9 o->m.get? b=Z9 o)->wpAny (model X.prog X.w) X.A.in1.in1 (rq (.ref a)) (λi M=>ku (model X.prog X.w) X.A.in1 (.builtin "dict.update.loop" ⟨[.ref s.heap.objs.size,i,gc 0,.none],[]⟩) (wants (λr N=>r=.none/\EP X c U Q (.ref s.heap.objs.size) N) X.xe) M) (λ_ _=>False) ⟨m,s.gens,s.drawn,v,s.os⟩:=by
  intro m v kp;have I2:Inv (uO X X.A.in1.in1 (λ_ _=>False)) c U (upd H s.heap.objs.size (.dK [])) ⟨m,s.gens,s.drawn,v,s.os⟩:=(V.kept kp).uO rfl rfl;refine aI (z2o (tg:=.Name "" default) (R:=λJ y=>Walk X.K J (λa=>B a/\¬nw H a) y p/\y=upd H s.heap.objs.size (.dK [])) I2 (show RelV (.ref a) (.ref a)from rfl) ((Rep.there _ rx).same (Same.upd t) λ_ z=>z) ew λJ W=>⟨W,rfl⟩) λi M zz=>?_;obtain⟨it,fp,tn,J,y,Y,I3,T,st,fo,W,eH⟩:=zz;subst Y eH;refine zts (X:=uO X X.A.in1.in1 (λ_ _=>False)) hc rfl T W (λz=>z.2 t) p.length 0 M _ [] [] _ _ (by omega) (by omega) I3 st fo aT (ai _) rfl em (λ_ _ e _=>e) ?_;intro s' y O I' Z P ext;refine⟨rfl,.ref s.heap.objs.size,y,I'.Dv I.ok,rfl,q _ y (λb o e=>ext b o (dE e t) (aB (dE e t)▸e)) ⟨_,O,rfl,Z,.inl t,?_⟩⟩;cases hi:imms p with
  |true=>exact aS.bD f (Ig p [] f hi rfl em) P
  |false=>exact P.same (Same.refl y) λ_ z=>.inr ⟨rfl,z.1⟩
 have hA:=I.ok.hd hc;cases l with
 |true=>obtain⟨its,_,⟨o,n,S,g,C,D⟩,_⟩:=V.list (P9 (Same.upd t) L);refine ac (kz ⟨o,S,g⟩ ?_);refine ac (PX S g D C hA λm v e hx=>?_);refine ac (jr (ac (gq (rest m v hx.keeps) (λi M E=>?_) λ_ _ z=>z.elim)));exact ah ⟨j3 F.aO _,E⟩
 |false=>obtain⟨its,_,⟨o,n,S,g,C,D⟩,_⟩:=V.qT (bN.rel (Same.upd t) L);refine ac (kz ⟨o,S,g⟩ ?_);refine ac (PY S g D C hA λm v e hx=>?_);refine ac (jr (ac (gq (rest m v hx.keeps) (λi M E=>?_) λ_ _ z=>z.elim)));exact ah ⟨j3 F.aO _,E⟩
end
open PySem.W
section
variable (key:Nat->Nat)
def hZ (p:Array Nat)(i:Nat):Nat:=key (p.getD i 0)
variable {key}
theorem Ih (h:p[i]?=q[j]?):hZ key p i=hZ key q j:=by unfold hZ;rw[dj,dj,h]
theorem Qc (b:j<=p.size)(k:Nat):hZ key (kas_rev p i j) k=if i<=k/\k<j then hZ key p (i+j-1-k)else hZ key p k:=by
 have h:=getElem?_mirror_all (i:=i) b k;split
 .rename_i a;refine Ih ?_;unfold kas_rev;rw[h,ya a]
 .rename_i a;refine Ih ?_;unfold kas_rev;rw[h,yb a]
structure yo (key:Nat->Nat)(p:Array Nat)(n q:Nat):Prop where
 one:1<=n
 qn:q+1<=n
 sz:n<=p.size
 de:∀i,1<=i->i<n->hZ key p i<=hZ key p (i-1)
 eq:∀i,n<=i+1+q->i<n->hZ key p i=hZ key p (n-1)
theorem yo.rev (h:yo key p n q)(k:Nat):hZ key (kas_rev p (n-(q+1)) n) k=hZ key p k:=by
 rw[Qc h.sz];split
 .rename_i a;rw[h.eq k (by omega) a.2,h.eq _ (by omega) (by omega)]
 .rfl
def Dw (key:Nat->Nat)(p:Array Nat)(m:Nat):Prop:=∀i,1<=i->i<m->hZ key p (i-1)<=hZ key p i
theorem Dw.le (h:Dw key p m):∀d i,i+d<m->hZ key p i<=hZ key p (i+d)
 |0,i,_=>ai _
 |d+1,i,hm=>by exact bp (Dw.le h d i (by omega)) (h (i+d+1) (by omega) (by omega))
end
theorem Ii {h:Heap}(c:b≠a)(e:h.get? b=Z9 o):(h.update a f).get? b=Z9 o:=by rw[i7 _ _ _ _ c];exact e
def cS {α:Type}(n:Nat)(Q:α->Prop):KasT α->Prop
 |.ret a=>Q a
 |.ask i j k=>i<n/\j<n/\∀b,cS n Q (k b)
theorem cS.bind {c d:Type}{Q:c->Prop}{R:d->Prop}{f:c->KasT d}(e:∀a,Q a->cS n R (f a)):∀{t:KasT c},cS n Q t->cS n R (t.bind f)
 |.ret a,h=>e a h
 |.ask i j k,h=>⟨h.1,h.2.1,λb=>cS.bind e (h.2.2 b)⟩
theorem cS.ite [Decidable c] (d:cS n Q a)(e:cS n Q b):cS n Q (if c then a else b):=by
 split
 .exact d
 .exact e
def AllIn (n:Nat)(p:Array Nat):Prop:=0<n/\p.Perm (List.toArray (cc n))
theorem AllIn.get {n:Nat}{p:Array Nat}(h:AllIn n p)(i:Nat):p.getD i 0<n:=by
 rw[dj];cases e:p[i]? with
 |none=>exact h.1
 |some x=>simpa using h.2.mem_iff.mp (Array.mem_of_getElem? e)
theorem AllIn.perm {n:Nat}{p q:Array Nat}(h:AllIn n p)(hp:q.Perm p):AllIn n q:=⟨h.1,hp.trans h.2⟩
theorem AllIn.rev {n:Nat}{p:Array Nat}(h:AllIn n p)(i j:Nat):AllIn n (kas_rev p i j):=h.perm (mirror_perm _ _ _ _)
theorem Dx (h:AllIn n p):∀f m,cS n (λ_=>True) (kas_asc p f m)
 |0,m=>trivial
 |f+1,m=>⟨h.get _,h.get _,λb=>cS.ite trivial (Dx h f (m+1))⟩
theorem Am:∀f p m q,AllIn n p->cS n (λr=>AllIn n r.1) (kas_desc f p m q)
 |0,p,m,q,h=>h
 |f+1,p,m,q,h=>⟨h.get _,h.get _,λb=>cS.ite (cS.ite (Am f _ _ _ (h.rev _ _)) (Am f _ _ _ h)) ⟨h.get _,h.get _,λd=>cS.ite h (Am f _ _ _ h)⟩⟩
theorem Ij (h:AllIn n p):cS n (λr=>AllIn n r.2) (kas_tail3 m r p):=by refine cS.bind (λa _=>?_) (Dx (h.rev _ _) _ _);exact h.rev _ _
theorem Ik (h:AllIn n p):cS n (λr=>AllIn n r.2) (kas_descPart m r p):=cS.bind (λa b=>cS.ite (Ij (AllIn.rev b _ _)) (Ij b)) (Am _ _ _ _ h)
theorem Qd (h:AllIn n p):cS n (λr=>AllIn n r.2) (kas_count r p):=by
 refine cS.bind (λm _=>?_) (Dx h _ _);split
 .exact h
 .split
  .refine⟨h.get _,h.get _,λc=>?_⟩;show cS n _ (if c=Z7 then _ else _);split
   .exact h
   .exact Ik (h.rev _ _)
  .exact Ik h
theorem Dy (h:AllIn n p)(k:Nat):∀f l r,cS n (λ_=>True) (kas_place p k f l r)
 |0,l,r=>trivial
 |f+1,l,r=>by exact cS.ite trivial ⟨h.get _,h.get _,λc=>cS.ite (Dy h k f _ _) (Dy h k f _ _)⟩
theorem Il:∀f p k,AllIn n p->cS n (AllIn n) (kas_bin f p k)
 |0,p,k,h=>h
 |f+1,p,k,h=>cS.bind (λl _=>Il f _ _ (h.perm (bubble_perm _ _ _))) (Dy h k _ _ _)
theorem Qe {n:Nat}(h:0<n):cS n (AllIn n) (kas_sort n):=by
 unfold kas_sort;refine cS.bind (λr hr=>?_) (Qd ⟨h,Array.Perm.refl _⟩);split
 .exact Il _ _ _ hr
 .exact hr
theorem Im {α:Type}{n:Nat}{cmp:Nat->Nat->(Bool->aq->Prop)->aq->Prop}{P:aq->Prop}{R:α->Prop}(h:∀i j C s,i<n->j<n->P s->(∀b s',P s'->C b s')->cmp i j C s){Q:α->aq->Prop}:∀(t:KasT α) (s:aq),cS n R t->P s->(∀a s',R a->P s'->Q a s')->t.kasWp cmp Q s
 |.ret a,s,r,p,q=>q a s r p
 |.ask i j k,s,a,p,q=>h i j _ s a.1 a.2.1 p λb s' p'=>Im h (k b) s' (a.2.2 b) p' q
structure yp (p:D->Prop):Prop where
 XG:∀x,p x->lD x x=Z6
 tr:∀x y z,p x->p y->p z->lD x y=Z7->lD y z=Z7->lD x z=Z7
 XH:∀x y z,p x->p y->p z->lD x z=Z7->lD x y=Z7\/lD y z=Z7
 XJ:∀x y,p x->p y->lD x y=Z6->lD y x=Z6->x=y
section
variable {p:D->Prop}(O:yp p)
include O
end
section
variable {prog:cg}{w:World}{A:d8}{E:Value->aq->Prop}{s:aq}{b:Bool}{x y:D}{u v:Value}{Q:Bool->aq->Prop}
end
section
variable {X:Cx}
end
section
variable {X:Cx}
theorem Qf (m:X.calm=Z7):CallR X (.builtin "any") (λj H Q=>∃(p:Addr) (bs:List Bool),j=[.ref p]/\SqL X.K H p (bs.map V.bl)/\Q (.bl (bs.any id)) H):=by
 rintro l s D H j E Q I r ⟨p,bs,rfl,n,q⟩
 obtain⟨u,rfl,rfl⟩:=vals1 r;obtain⟨c,rv,pl,F⟩:=I.list n;refine call_any_walk (jm pl.isList ?_);have ne:p≠s.heap.objs.size:=by obtain⟨o,ho,_⟩:=pl.isList;exact cu (bj ho)
 have a:=by have:=rv.length;rw[ae]at this;exact this
 refine⟨s.heap.objs.size,_,_,_,_,_,λi=>bs.getD i Z6,rfl,Walks.list (A:=X.A.in1) (I.ok.hd m) s.heap.objs.size p ne c.toArray,⟨⟨_,ax _ rfl,rfl,rfl⟩,pl.isList.at λo e=>af _ e⟩,?_,?_⟩
 .intro i v t w G x y;have d:c[i]?=Z9 v:=by simpa using x
  have hb:i<bs.length:=a▸(ba.mp d).1;obtain⟨J,hu,B⟩:=rv.get (by rw[ar,am hb];rfl);rw[d]at hu;cases hu;cases B;refine il ?_;have e:bs.getD i Z6=bs[i]:=by simp[az,hb]
  have f:w (bs.getD i Z6) t:=y;rw[e]at f;exact f
 .intro L M k;refine⟨.bl (bs.any id),H,I.kept λb o e=>?_,?_,q⟩
  .refine k b o (λz=>?_) (af _ e);have C:b=s.heap.objs.size:=by simpa using z
   exact absurd (bj e) (C▸dk _)
  .have e:(cc c.toArray.size).any (fun i=>bs.getD i Z6)=bs.any id:=by
    rw[cb,<-a];apply o0.mpr;simp only[qz];constructor
    .rintro⟨i,d,h⟩
     have g:i<bs.length:=by simpa using d
     exact⟨bs[i],ig g,by simpa[az,g]using h⟩
    .rintro⟨b,hb,h⟩
     have⟨i,d,ei⟩:=uj hb;subst ei;exact⟨i,by simpa using d,by simpa[az,d]using h⟩
   rw[e];rfl
theorem Qg (f:X.calm=Z7):CallR X (.builtin "any") (rAgg X.K "any"):=by
 refine CallR.imp (Qf f) λj H Q h=>?_;obtain⟨B,x,k,l,g,d,rfl,r,e,b,q⟩:=h;obtain⟨a,m,rfl,h,i⟩:=rX r e;simp only[aggD,show("any":String)≠"list" by decide,show("any":String)≠"tuple" by decide,show("any":String)≠"sorted" by decide,show("any":String)≠"sum" by decide,show("any":String)≠"all" by decide,if_true,if_false]at b;cases l with
 |false=>cases b
 |true=>
  cases c:allB g with
  |none=>rw[c]at b;cases b
  |some bs=>rw[c]at b;cases b;have ev:=Du c i;subst ev;exact⟨a,bs,rfl,h,q _ H (Same.refl H) rfl⟩
end
theorem Qh (r:KV kvs c){i:Nat}(h:kvs[i]?=Z9 (k,v)):∃u,c[i]?=Z9 (k,u)/\RelV v u:=by
 induction r generalizing i with
 |nil=>simp at h
 |cons a b d=>
  cases i with
  |zero=>cases h;rename_i e _ _;obtain⟨g,f⟩:=e;obtain⟨rfl,a2⟩:=a;exact⟨f,rfl,a2⟩
  |succ i=>exact d h
theorem Qi (h:(z0k P w).is k u=Z7):RelV (kV k) u:=by
 rcases mD h with⟨i,t,rfl,rfl⟩|⟨x,t,rfl,rfl⟩
 .exact⟨t,rfl⟩
 .exact⟨t,rfl⟩
theorem aS.at {K:Z5}:∀{kvs:List (Key×V)} {es:bF} {i:Nat} {k:Key} {v:V},aS K H B kvs es->kvs[i]?=Z9 (k,v)->∃d,es[i]?=Z9 (kD k,d)/\keyOk k/\Rep K H B v d
 |kvs,[],i,k,v,r,e=>by have:kvs=[]:=r;subst this;simp at e
 |kvs,(kd,d)::es,i,k,v,r,e=>by
  obtain⟨c,f,t,rfl,rfl,ok,a,b⟩:=r;cases i with
  |zero=>cases e;exact⟨d,rfl,ok,a⟩
  |succ i=>rw[l9]at e ⊢;exact aS.at b e
theorem Qj {K:Z5}(ok:keyOk k):Rep K H B (kV k) (kD k):=by
 cases k with
 |inl i=>exact rfl
 |inr x=>exact⟨rfl,ok⟩
section
variable {X:Cx}
theorem Qk {K:Z5}{i:Nat}(so:StOk K F H k l)(e:l[i]?=Z9 (Z9 (g,.dict es))):∃d a B,k[i]?=Z9 (Z9 (.ref d))/\H d=Z9 (.dK a)/\F.V d/\aS K H B a es:=by
 obtain⟨v,f,j⟩:=so.sl i g _ e;cases g with
 |fr=>
  obtain⟨p,rfl,ho,h⟩:=j;rcases h with⟨_,_,z,_⟩|⟨a,m,z,c,r⟩
  .cases z
  .cases z;exact⟨p,a,_,f,c,(so.own p i ho).2.1,r⟩
 |od=>obtain⟨p,a,rfl,c,b,r⟩:=j;exact⟨p,a,_,f,c,b.2,r⟩
 |al=>obtain⟨p,a,rfl,c,b,r⟩:=j;exact⟨p,a,_,f,c,b,r⟩
 |nu=>obtain⟨p,a,rfl,c,b,r⟩:=j;exact⟨p,a,_,f,c,b.2.2,r⟩
end
section
variable {X:Cx}{pins:List (Addr×Obj)}{σ:L2.St}{H:Hp}{s:aq}
theorem _root_.L2.Inv.yq (I:Inv X d k H s)(f:FpOk X d H a)(new:z1b X.prog X.w (upd H a u) s.heap a u):Inv X d k (upd H a u) s:=by
 obtain⟨g,l,t,o,p,r⟩:=f
 exact I.step (ch:=[a]) (fun b i=>by
   have e:b=a:=by simpa using i
   subst e;exact⟨o,l,p,r⟩) (λb q _ _ _ e _=>e) (λb q _ _ _ e _=>⟨q.slots,e⟩) (λb q hc _ n=>by rw[aB (λz=>hc (by simp[z]))];exact n) (λb q _ e=>⟨q,e⟩)
  (λb j q=>by rw[aB (dE q g)];exact q) (λb v j q=>by rw[aB (dE q g)];exact q) (λb ps q=>⟨#[],by rw[aB (dE q g),q];simp⟩) (λm h=>h) (λb v e=>by
   by_cases i:b=a
   .subst i;rw[aT]at e;cases e;exact new
   .rw[aB i]at e;exact(I.hok b v e).stay (λc w _ q=>q) (λc q=>by rw[aB (dE q g)];exact q) λc j q=>by rw[aB (dE q g)];exact q) I.bare
theorem z6k:∀(l:List (Addr×List V)) {H:Hp},Inv X d k H s->(l.map (·.1)).Nodup->(∀q∈l,FpOk X d H q.1)->(∀q∈l,q.2.length<=bh/\∃f,Vals q.2 f/\TupN s.heap q.1 f.toArray)->
  ∃e,Inv X d k e s/\Same H e/\(∀q∈l,e q.1=Z9 (.tup q.2))/\∀a,a∉l.map (·.1)->e a=H a
 | [],H,I,_,_,_=>⟨H,I,Same.refl H,(λq c=>absurd c (by simp)),λ_ _=>rfl⟩
 |(a,g)::l,H,I,nd,hf,i=>by
  rw[br,cz]at nd;have fa:=hf (a,g) (by simp);obtain⟨e,m,sm,n,j⟩:=z6k l (I.yq (u:=.tup g) fa (i (a,g) (by simp))) nd.2 (λq c=>by obtain⟨o,r⟩:=hf q (by simp[c]);exact⟨by rw[aB ((λq c z=>nd.1 (av.mpr ⟨q,c,z⟩)) q c)];exact o,r⟩) λq c=>i q (by simp[c]);refine⟨e,m,(Same.upd fa.1).trans sm,λq c=>?_,λb h=>?_⟩
  .rcases au.mp c with p|c;subst p
   .rw[j a nd.1];exact aT
   .exact n q c
  .rw[br,au,not_or]at h;rw[j b h.2,aB h.1]
theorem _root_.L2.Inv.writeF {D:Addr}(I:Inv X pins σ H s)(g:H D=Z9 (.lst f))(hm:s.heap.Ns X.env.locals m)(a:h.Ns X.env.locals m)
  (kp:∀b u,b≠X.env.locals->b≠D->s.heap.get? b=Z9 u->h.get? b=Z9 u) (new:z1b X.prog X.w (upd H D (.lst i)) h D (.lst i)):Inv X pins σ (upd H D (.lst i)) {s with heap:=h,toks:=t'}:=by
 have nd:∀b v,H b=Z9 v->v≠.lst f->upd H D (.lst i) b=Z9 v:=λb v q r=>by rw[aB (λz=>by subst z;rw[g]at q;cases q;exact r rfl)];exact q
 have ne:∀b,H b=Z8->b≠D:=λb n z=>by subst z;rw[g]at n;cases n
 have o:∀c v,H c=Z9 v->c≠X.env.locals:=λc v p z=>by subst z;rw[I.free]at p;cases p
 refine I.step (ch:=[]) (λ_ z=>nomatch z) (λb q j _ _ e n=>kp b q j (ne b n) e) (λb q j _ _ e n=>⟨q.slots,kp b q j (ne b n) e⟩) (λb q _ e n=>by rw[aB (ne b n)];exact n) (λb q _ e=>?_) (λb f q=>nd b _ q (λz=>nomatch z)) (λb u f q=>nd b _ q (λz=>nomatch z)) (λb ps q=>⟨#[],by rw[nd b _ q (λz=>nomatch z)];simp⟩) (λy k=>?_) (λb u e=>?_) I.bare
 .by_cases hb:b=X.env.locals
  .subst hb;obtain⟨t,_,_,l,_⟩:=a;exact⟨t,l⟩
  .by_cases hd:b=D
   .subst hd;obtain⟨_,_,_,_,x⟩:=new;exact⟨_,x⟩
   .exact⟨q,kp b q hb hd e⟩
 .rw[k.eq_nsMap,<-hm.eq_nsMap];exact a
 .by_cases hb:b=D
  .subst hb;rw[aT]at e;cases e;exact new
  .rw[aB hb]at e;refine(I.hok b u e).stay (λc v d q=>?_) (λc q=>nd c _ q (λz=>nomatch z)) λc f q=>nd c _ q (λz=>nomatch z);rcases d with rfl|d
   .exact kp _ v (o _ _ e) hb q
   .exact kp c v (o _ _ d) (λz=>by subst z;rw[g]at d;cases d) q
def Ql (i:Nat):TE:=λσ H Q=>∃d kvs,σ[i]?=Z9 (Z9 (.ref d))/\H d=Z9 (.dK kvs)/\∀p,H p=Z8->Q (.ref p) (upd H p (.ext λh=>h.IsItemsView p d))
theorem zgv (hN:X.N[i]?=Z9 x)(n:Vis X.env.scope x)(e:XX x)(f:(x==("__classdict__":Str))=Z6)(b:(t.endLine==u.line)=Z7):
  PE X (.Call (.Attribute (.Name x p) "items" t) [] [] u) (Ql i):=by
 rintro pins s σ H Q I ⟨d,z,g,hd,q⟩
 refine wpAny_Call_method rfl rfl b PySem.F.plainAttrs_dict PySem.F.slot_dict_items PySem.F.type_dict_items (aI (qQ hN n e f pins s σ H (λv l=>v=.ref d/\l=H) I ⟨_,g,rfl,rfl⟩) λov m A=>?_);obtain⟨y,l,j,r1,B,C⟩:=A;subst B C;cases r1;obtain⟨_,c,D,rel,a⟩:=zg9 j.hok hd;refine⟨a.typeIs,a.mapOf.noDict,?_⟩;refine method_meetsIn PySem.F.slot_dict_items PySem.F.entry_dict_items rfl (PySem.evalArgs_none ⟨rfl,a.typeIs,PySem.F.args_dict_items_1 _,_,meets_dict_items (z0k X.prog X.w) d c,⟨D,a⟩,?_⟩);refine⟨.ref m.heap.objs.size,_,j.laid (o:=.ext λh=>h.IsItemsView m.heap.objs.size d) (λ_ _ q=>af _ q) (ai _) ⟨⟨_,ax _ rfl,rfl,rfl⟩,⟨_,ax _ rfl⟩,λE G ⟨o,ho,r⟩ k=>⟨o,k o ho,r⟩⟩,rfl,q _ (j.hok.fresh (ai _))⟩
end
section
variable {X:Cx}{pins:List (Addr×Obj)}{σ:L2.St}{H:Hp}{s:aq}
end
theorem z3r {a:List Value}(c:s.heap.get? l=Z9 (j5 "list" a.toArray n))(q:a.length<2)
  (h:∀g r,(∀b o,b≠l->s.heap.get? b=Z9 o->g.get? b=Z9 o)->g.get? l=Z9 (j5 "list" a.toArray r)->Q .none {s with heap:=g}):
  wpAny (model prog w) A (call (.builtin "list.sort") [.ref l]) Q E s:=by
 refine d3 slot_list_sort ⟨_,c,rfl⟩ entry_list_sort ?body (args_list_sort _);rw[list_sort_plain];refine ac (listItems_at c rfl ?_);refine ac (listUpdate_at c rfl ?_);obtain⟨i,f⟩:∃i,(s.heap.update l (Obj.mapSeq λ_=>(#[]:Array Value))).get? l=Z9 (j5 "list" #[] i):=⟨_,get?_update_seq c λ_=>#[]⟩;have k:∀b o,b≠l->s.heap.get? b=Z9 o->(s.heap.update l (Obj.mapSeq λ_=>(#[]:Array Value))).get? b=Z9 o:=λb o hb e=>Ii hb e;generalize (s.heap.update l (Obj.mapSeq λ_=>(#[]:Array Value)))=j at f k ⊢;refine ac (seqEpoch_at f rfl ?_);refine ac (p5 ?_ (by rw[dw];simp;omega));apply ac;refine uz (dz ?_);have d:((j.push (j5 "tuple" a.toArray 0)).push (j5 "list" #[] 0)).get? l=Z9 (j5 "list" #[] i):=af _ (af _ f);have m:∀b o,b≠l->s.heap.get? b=Z9 o->((j.push (j5 "tuple" a.toArray 0)).push (j5 "list" #[] 0)).get? b=Z9 o:=λb o hb e=>af _ (af _ (k b o hb e));generalize ((j.push (j5 "tuple" a.toArray 0)).push (j5 "list" #[] 0))=u at d m ⊢;have p:a.toArray.size<2:=by simpa using q
 rw[ya p,ya p];refine ac (ah ?_);refine ac (ah ?_);refine ac (seqEpoch_at d rfl ?_);have t:(arrOf (SortSt.mk' general' (a.toArray.zip a.toArray) #[] 7 Z8)).map (·.2)=a.toArray:=by show(a.toArray.zip a.toArray).map (·.2)=a.toArray;simp;exact List.map_snd_zip (ai _)
 rw[t];refine ac (listUpdate_at d rfl ?_);simp;exact ah ⟨_,rfl,h _ _ (λb o hb e=>Ii hb (m b o hb e)) (get?_update_seq d λ_=>a.toArray)⟩
theorem Io {K:Z5}:∀{b:List V} {c:List D},b.length=c.length->(∀(i:Nat) v d,b[i]?=Z9 v->c[i]?=Z9 d->Rep K H B v d)->aD K H B b c
 | [],[],_,_=>rfl
 |v::b,d::c,a,h=>aD.cons (h 0 v d rfl rfl) (Io (by simpa using a) λi v d e f=>h (i+1) v d (by simpa using e) (by simpa using f))
 | [],_::_,a,_=>by cases a
 |_::_,[],a,_=>by cases a
theorem Dz:∀b:List Addr,Vals (b.map V.ref) (b.map ZS)
 | []=>.nil
 |a::b=>.cons rfl (Dz b)
section
variable {X:Cx}
def Qm (K:Z5):List V->Hp->VK->Prop:=λxs H Q=>∃p d kvs es B,xs=[.ref p]/\H p=Z9 (.ext λh=>h.IsItemsView p d)/\H d=Z9 (.dK kvs)/\aS K H B kvs es/\bQ es=Z7/\es.length<2/\∀w H',Same H H'->Rep K H' (nw H) w (.list (es.map ent))->Q w H'
theorem Qn (hc:X.calm=Z7):CallR X (.builtin "sorted") (Qm X.K):=by
 intro pins s σ H xs us Q I r h;obtain⟨p,d,kvs,es,B,rfl,hp,hd,rs,him,h2,q⟩:=h;obtain⟨u,rfl,ru⟩:=vals1 r;cases ru;obtain⟨hview,_,_⟩:=I.hok p _ hp;obtain⟨hz,hsys,vs,rel,o,es',ep,ho,hcx,hdat,r3⟩:=zg9 I.hok hd;have hat:s.heap.DictAt (z0k X.prog X.w) d vs ep:=⟨o,es',ho,hcx,hdat,r3⟩;have lk:kvs.length=vs.length:=rel.length;have le:kvs.length=es.length:=rs.length;apply qd kind_sorted plain_sorted entry_sorted (args_sorted1 _);unfold Builtin.«sorted»;apply ac (m:=checkCount "sorted" 1 1 _);apply ah;refine ac (kdx_collect (A:=X.A.in1) (knd:=z0k X.prog X.w) (kvs:=vs) (ep:=ep) (I.ok.hd hc) hview hat (by omega) λh' tk as hk hl hG=>?_);have I1:Inv X pins σ H {s with heap:=h',toks:=tk}:=I.kept (t':=tk) hk;have lz:as.length=kvs.length:=by omega
 have e1:((as.zip (kvs.map λkv=>[kV kv.1,kv.2])).map (·.1))=as:=List.map_fst_zip (by rw[ae];omega)
 have yr:∀z∈as.zip (kvs.map λkv=>[kV kv.1,kv.2]),∃j k v,as[j]?=Z9 z.1/\kvs[j]?=Z9 (k,v)/\z.2=[kV k,v]:=λz Qo=>by
  obtain⟨j,hj,ej⟩:=uj Qo;have hj':j<as.length/\j<kvs.length:=by rw[l0,ae]at hj;omega
  refine⟨j,(kvs[j]'hj'.2).1,(kvs[j]'hj'.2).2,?_,am hj'.2,?_⟩
  .rw[<-ej,List.getElem_zip];exact am hj'.1
  .rw[<-ej,List.getElem_zip];simp
 obtain⟨H1,I2,sm,ht,_⟩:=z6k (as.zip (kvs.map λkv=>[kV kv.1,kv.2])) I1 (by rw[e1];exact hG.rise.imp λh=>cu h)
  (λz hz=>by obtain⟨j,k,v,h1,_,_⟩:=yr z hz;have ha:=hG.above z.1 (bt h1);exact I.gI (kr ha) (I.hok.fresh (kr ha)))
  (λz hz=>by obtain⟨j,k,v,h1,h2,h3⟩:=yr z hz;obtain⟨key,k',x,g1,g2,g3⟩:=hG.pairs j z.1 h1;obtain⟨u,g4,ru⟩:=Qh rel h2;rw[g4]at g1;cases g1;rw[h3];exact⟨by rw[dw];simp,[key,_],.cons (Qi g2) (.cons ru .nil),0,g3⟩)
 refine ac (uz ?_ (by rw[ae];omega));have hD:H1 h'.objs.size=none:=I2.hok.fresh (ai _);have I3:Inv X pins σ (upd H1 h'.objs.size (.lst (as.map V.ref))) {s with heap:=h'.push (j5 "list" (as.map ZS).toArray 0),toks:=tk}:=I2.laid (a:=h'.objs.size) (o:=.lst (as.map V.ref)) (t':=tk) (λ_ _ q=>af _ q) (ai _) ⟨by rw[ae];omega,_,0,Dz as,ax _ rfl⟩
 have rp:aD X.K (upd H1 h'.objs.size (.lst (as.map V.ref))) (λ_=>False) (as.map V.ref) (es.map ent):=by
  refine Io (by rw[ae,ae];omega) λi v dd h1 h2=>?_;rw[ar]at h1 h2;obtain⟨a,ha,rfl⟩:=bc.mp h1;obtain⟨ev,Ip,rfl⟩:=bc.mp h2;have hi:i<kvs.length:=by rw[<-lz];exact(ba.mp ha).1
  have Iq:kvs[i]?=Z9 (kvs[i].1,kvs[i].2):=by simp[hi]
  obtain⟨dv,h4,ok,rv⟩:=aS.at rs Iq;rw[h4]at Ip;cases Ip;have Ir:H1 a=Z9 (.tup [kV kvs[i].1,kvs[i].2]):=ht (a,[kV kvs[i].1,kvs[i].2]) (by refine d9.mpr ⟨i,?_⟩;rw[fi];exact⟨ha,by rw[ar,Iq];rfl⟩);have Qp:aL dv=true:=cx.mp him _ (bt h4);refine⟨a,_,rfl,bN.of (by rw[aB (dE Ir hD)];exact Ir),aD.cons (Qj ok) (aD.cons ?_ rfl)⟩;exact Rep.jT (λb u e f=>by have:=sm b u e;rw[aB (dE this hD)];exact this) dv Qp rv
 have yt:H h'.objs.size=none:=by
  cases e:H h'.objs.size with
  |none=>rfl
  |some u=>have:=sm _ _ e;rw[hD]at this;cases this
 show wpAny _ _ (x8 [ZS h'.objs.size] (call (.builtin "list.sort") [.ref h'.objs.size])>>=_) _ _ {s with heap:=h'.push (j5 "list" (as.map ZS).toArray 0),toks:=tk};have yu:(h'.push (j5 "list" (as.map ZS).toArray 0)).get? h'.objs.size=Z9 (j5 "list" (as.map ZS).toArray 0):=ax _ rfl;obtain⟨m,pO,_⟩:=id I3.loc;have DA:X.env.locals≠h'.objs.size:=λz=>by have:=I2.lt;rw[z]at this;exact dk _ this
 refine ac (dz (z3r (s:={s with heap:=h'.push (j5 "list" (as.map ZS).toArray 0),toks:=tk}) yu (by rw[ae];omega) λpP n' kp yw=>ah ⟨_,rfl,.ref h'.objs.size,_,I3.writeF (t':=tk) aT pO (pO.at λo e=>kp _ o DA e) (λb u _ hb e=>kp b u hb e) ⟨by rw[ae];omega,_,n',Dz as,yw⟩,rfl,q _ _ (λb u e=>?_) ⟨_,as.map V.ref,rfl,.inl ⟨aT,yt⟩,?_⟩⟩))
 .have hb:=dE e yt;rw[aB hb,aB hb];exact sm b u e
 .refine aD.keep (λb u e f=>?_) (λ_ z=>z.elim) _ rp;rcases f with f|f
  .exact f.elim
  .have hb:b≠h'.objs.size:=λz=>by subst z;rw[aT]at e;cases e;exact f
   rw[aB hb];exact e
end
section
variable {X:Cx}
theorem zlk {i:Nat}{f x:Str}{p p2 ap cp pos:Pos}(hc:X.calm=Z7)(hm:X.mg f=Z8)(hb:db f=Z9 (.builtin "sorted"))(hg:Gl X f)(hn:f≠"__name__")(hfd:XX f)
  (hN:X.N[i]?=Z9 x) (hv:Vis X.env.scope x) (hdb:XX x) (Ci:(x==("__classdict__":Str))=Z6) (yx:(ap.endLine==cp.line)=Z7):
  PE X (.Call (.Name f p) [.Call (.Attribute (.Name x p2) "items" ap) [] [] cp] [] pos) (tD X.K λρ=>match ρ[i]? with
   |some (Z9 (_,.dict es))=>if bQ es&&decide (es.length<2)then .ok (.fr,.list (es.map ent))else .no
   |_=>.no):=
 PE.imp (uG (Qn hc) hm hb (cV (zgv hN hv hdb Ci yx) hU rfl) rfl hg hn hfd) λσ H Q zz=>by
  obtain⟨ρ,F,z,so,e,q⟩:=zz
  dsimp only at e
  split at e
  case h_2=>cases e
  rename_i g es hr;split at e
  case isFalse=>cases e
  rename_i pQ;cases e;simp only[cq,decide_eq_true_eq]at pQ;obtain⟨h1,h2⟩:=pQ;obtain⟨d,kvs,B,hσ,hH,hV,rs⟩:=Qk so hr;refine⟨d,kvs,hσ,hH,λv hp=>⟨v,d,kvs,es,B,rfl,aT,by rw[aB (dE hH hp)];exact hH,rs.same (Same.upd hp) λ_ z=>z,h1,h2,λw H' sm An=>q w H' ((Same.upd hp).trans sm) (An.weak λa ha=>?_)⟩⟩;cases a with
  |none=>exact ha
  |some a=>
   have uQ:upd H v (.ext λh=>h.IsItemsView v d) a=none:=ha;show H a=Z8;by_cases Iu:a=v
   .subst Iu;exact hp
   .rw[aB Iu]at uQ;exact uQ
end
section
variable {X:Cx}{tg a b c e:Expr}{es:List Expr}{fa fb:Rho->Res GD}{pos:Pos}
theorem ztf (hc:CallR X (.type T) (z7o X.K m))(hm:X.mg x=Z8)(l:db x=Z9 (.type T))(n:PA X (e::es) (tDA X.K fs))(c:((e::es).all fun e=>!isStar e)=Z7)(o:Gl X x)(hn:x≠"__name__")(f:XX x):
  PE X (.Call (.Name x p) (e::es) [] pos) (tD X.K λg=>fs g>>=λi=>m (i.map (·.2))>>=λd=>.ok (gJ d .al,d)):=by
 refine PE.imp (z3 hc hm l n c o hn f) λy H Q r=>?_;obtain⟨g,F,z,so,b,q⟩:=r;obtain⟨i,s,b⟩:=Res.aA b;obtain⟨d,t,b⟩:=Res.aA b;cases b;exact⟨g,F,i,so,s,λA B k rs=>⟨_,_,d,rs.iZ so.aH,t,λw u v j=>q w u (k.trans v) (pN j λa h=>h.elim (λz=>(nw.back k z).aH so.aH) λz=>z)⟩⟩
theorem Qq:CallR X (.type "int") (z7o X.K (hX "int")):=by
 refine CallR.imp Nl λc H Q h=>?_;obtain⟨B,e,d,r,a,q⟩:=h;simp only[hX,show("int":String)≠"len" by decide,show("int":String)≠"max" by decide,if_true,if_false]at a;split at a
 .rename_i i;cases a;obtain⟨v,rfl,b⟩:=Ai r;obtain rfl:v=.int i:=b;exact .inl ⟨i,rfl,q _ H (Same.refl H) rfl⟩
 .rename_i k;cases a;obtain⟨v,rfl,b⟩:=Ai r;obtain rfl:v=.bl k:=b;exact .inr ⟨k,rfl,q _ H (Same.refl H) rfl⟩
 .cases a
end
abbrev ZRec (TI TO:Addr)(f0:Value)(f1:Bool):Obj:={cls:=.type "zip",dict:=Z8,data:=.fields #[f0,.bool f1,.bool Z6,.ref TI,.ref TO],slots:=#[]}
def ZF (f0:Value):Prop:=f0=Value.none\/∃T:Nat,f0=gc T
section
variable {prog:cg}{w:World}{A:d8}{E:Value->aq->Prop}{s:aq}{z TI TO:Addr}{f0:Value}{f1:Bool}
theorem Qr (h:Q (s.heap.get? a) s):wpAny (model prog w) A (loadIfAlive a) Q E s:=λ_ _ _=>h
theorem Iw (hf:ZF f0)(a:s.heap.get? z=Z9 (ZRec TI TO f0 f1))(d:∀b c e,c.get? z=Z9 (ZRec TI TO f0 e)->ci z s.heap c->Q b {s with heap:=c}):wpAny (model prog w) A (lu (.ref z)) Q E s:=by
 delta lu
 apply ac;refine eh a rfl rfl ?_;rcases hf with rfl|⟨T,rfl⟩
 .exact ah (d Z7 s.heap f1 a (Heap.SameBut.refl ..))
 .show wpAny _ _ (loadIfAlive ((T:Int).toNat)>>=_) _ _ _;apply ac;refine Qr ?_;cases s.heap.get? ((T:Int).toNat)with
  |none=>exact ah (d Z7 s.heap f1 a (Heap.SameBut.refl ..))
  |some o=>
   apply ac;refine eh a rfl rfl ?_;cases f1 with
   |true=>exact ah (d Z6 s.heap Z7 a (Heap.SameBut.refl ..))
   |false=>apply ac;exact c9 a (by simp) λc f g=>ah (d Z6 c Z7 f g)
structure ZApart (z TI TO i1 i2:Addr)(p1 p2:List Addr):Prop where
 TIz:TI≠z
 TOz:TO≠z
 i1z:i1≠z
 i2z:i2≠z
 TITO:TI≠TO
 TIi1:TI≠i1
 TIi2:TI≠i2
 TOi1:TO≠i1
 TOi2:TO≠i2
 i12:i1≠i2
 yy:z∉p1
 Iy:TO∉p1
 Iz:i2∉p1
 yz:z∉p2
 DB:TO∉p2
 Ao:i1∉p2
variable {i1 i2:Addr}{p1 p2:List Addr}{n1 n2 i:Nat}{P1 P2:Nat->Value->Prop}{S1 S2:Nat->Heap->Prop}{a b:Value}
abbrev PairAt (h:Heap)(T:Addr)(a b:Value):Prop:=h.get? T=Z9 {cls:=.type "tuple",data:=.seq #[a,b]}
def Zk (z TO i1 i2:Addr)(h h':Heap):Prop:=∀c o,c≠z->c≠TO->c≠i1->c≠i2->h.get? c=Z9 o->h'.get? c=Z9 o
theorem DC (d:PairAt s.heap T a b)(h:∀c,c.get? T=Z9 {cls:=.type "tuple",data:=.seq ((#[a,b]:Array Value).setIfInBounds k x)}->ci T s.heap c->Q () {s with heap:=c}):wpAny (model prog w) A (updateSeq T (·.setIfInBounds k x)) Q E s:=s0 d rfl (h _ (by rw[e8 _ d rfl];simp[Obj.mapSeq]) (jt ..))
theorem zft {Q:Value->aq->Prop}(D:ZApart z TI TO i1 i2 p1 p2)(k:Draws prog w A i1 p1 n1 P1 S1)(l:Draws prog w A i2 p2 n2 P2 S2)(hf:ZF f0)(M:s.heap.get? z=Z9 (ZRec TI TO f0 f1))(N:PairAt s.heap TI (.ref i1) (.ref i2))(O:PairAt s.heap TO a b)(h1:S1 i s.heap)(h2:S2 i s.heap)(Y:i<n1)(l2:i<n2)
  (Z:∀x y n P F h a' b',P1 i x->P2 i y->ZF F->n.get? z=Z9 (ZRec TI TO F h)->PairAt n TO a' b'->S1 (i+1) n->S2 (i+1) n->PairAt n s.heap.objs.size x y->Zk z TO i1 i2 s.heap n->Q (.ref s.heap.objs.size) {s with heap:=n,toks:=P}):
  wpAny (model prog w) A (Builtin.«zip.__next__» {pos:=[.ref z],kw:=[]}) (λR s'=>∃v,R=.done (.ret v)/\Q v s') E s:=by
 show wpAny (model prog w) A (field (.ref z) 2>>=_) _ E s;apply ac;refine eh M rfl rfl ?_;apply ac;refine eh M rfl rfl ?_;apply ac;refine gn N rfl ?_;apply ac;refine Iw hf M λbf G h f j=>?_;have H:=λc o hc e=>j.extBut c o hc e;have e1:=k.frame _ _ _ h1 λb hb o e=>H b o (λq=>D.yy (q▸hb)) e;have e2:=l.frame _ _ _ h2 λb hb o e=>H b o (λq=>D.yz (q▸hb)) e;have t0:=H _ _ D.TOz O;have I:=j.1;cases bf with
 |true=>
  apply ac;refine jr ?_;apply ac;refine eh f rfl rfl ?_;apply ac;refine c9 f (by simp) λha S ka=>?_;replace S:ha.get? z=Z9 (ZRec TI TO .ellipsis h):=S;apply ac;apply ac;apply ac;apply n9;apply ac;refine k.item i _ _ _ Y (k.frame _ _ _ e1 λb hb o e=>ka.extBut b o (λq=>D.yy (q▸hb)) e) λx hb P p r g=>ah ?_;replace g:ci i1 ha hb:=g;have tb:=g.extBut _ _ D.TOi1 (ka.extBut _ _ D.TOz t0);apply ac;refine gn tb rfl ?_;apply ac;refine DC tb λhc tc kc=>?_;replace tc:PairAt hc TO x b:=tc;replace kc:ci TO hb hc:=kc;apply ac;refine xo (ah ?_);apply ac;apply ac;apply n9;apply ac;refine l.item i _ _ _ l2 (l.frame _ _ _ (l.frame _ _ _ (l.frame _ _ _ e2 λb hb o e=>ka.extBut b o (λq=>D.yz (q▸hb)) e) λb d o e=>g.extBut b o (λq=>D.Ao (q▸d)) e) λb d o e=>kc.extBut b o (λq=>D.DB (q▸d)) e) λy hd t u B kd=>ah ?_;replace kd:ci i2 hc hd:=kd;have td:=kd.extBut _ _ D.TOi2 tc;apply ac;refine gn td rfl ?_;apply ac;refine DC td λm L C=>?_;replace L:PairAt m TO x y:=L;replace C:ci TO hd m:=C;apply ac;refine xo (ah (ah ?_));apply ac;refine gn L rfl ?_;apply ac;refine p5 ?_;have sz:m.objs.size=s.heap.objs.size:=by rw[C.1,kd.1,kc.1,g.1,ka.1,I]
  have ze:=C.extBut _ _ D.TOz.symm (kd.extBut _ _ D.i2z.symm (kc.extBut _ _ D.TOz.symm (g.extBut _ _ D.i1z.symm S)));have J:=bj ze;apply ac
  delta Builtin.SmallTypes.ownedTupleHandOut
  have zf:(m.push {cls:=.type "tuple",data:=.seq #[x,y]}).get? z=Z9 (ZRec TI TO .ellipsis h):=af _ ze;apply ac;refine c9 zf (by simp) λhg T kg=>?_;replace T:hg.get? z=Z9 (ZRec TI TO (gc m.objs.size) h):=T;refine c9 T (by simp) λhh U kh=>?_;replace U:hh.get? z=Z9 (ZRec TI TO (gc m.objs.size) Z6):=U;have up:∀c o,c≠z->m.get? c=Z9 o->hh.get? c=Z9 o:=λc o hc e=>kh.extBut _ _ hc (kg.extBut _ _ hc (af _ e));have new:=kh.extBut _ _ (kt J) (kg.extBut _ _ (kt J) (ax _ rfl));refine ah ⟨.ref m.objs.size,rfl,?_⟩;rw[sz]at new ⊢;exact Z x y hh t _ _ x y p u (.inr ⟨_,rfl⟩) U (up _ _ D.TOz L) (k.frame _ _ _ (k.frame _ _ _ (k.frame _ _ _ (k.frame _ _ _ r λb d o e=>kc.extBut b o (λq=>D.Iy (q▸d)) e) λb d o e=>kd.extBut b o (λq=>D.Iz (q▸d)) e) λb d o e=>C.extBut b o (λq=>D.Iy (q▸d)) e) λb d o e=>up b o (λq=>D.yy (q▸d)) e) (l.frame _ _ _ (l.frame _ _ _ B λb d o e=>C.extBut b o (λq=>D.DB (q▸d)) e) λb d o e=>up b o (λq=>D.yz (q▸d)) e) new λc o K V W X e=>up c o K (C.extBut _ _ V (kd.extBut _ _ X (kc.extBut _ _ V (g.extBut _ _ W (ka.extBut _ _ K (H c o K e))))))
 |false=>
  apply ac;apply ac;apply ac;apply dz;apply ac;refine k.item i _ _ _ Y e1 λx hb P p r g=>ah (ah ?_);replace g:ci i1 G hb:=g;apply ac;apply ac;apply dz;apply ac;refine l.item i _ _ _ l2 (l.frame _ _ _ e2 λb d o e=>g.extBut b o (λq=>D.Ao (q▸d)) e) λy hd t u B kd=>ah (ah (ah ?_));replace kd:ci i2 hb hd:=kd;have sz:hd.objs.size=s.heap.objs.size:=by rw[kd.1,g.1,I]
  apply ac;refine p5 (ah ⟨_,rfl,?_⟩) (by show 2<=bh;decide);have up:∀c o,hd.get? c=Z9 o->(hd.push {cls:=.type "tuple",data:=.seq #[x,y]}).get? c=Z9 o:=λc o e=>af _ e;have new:PairAt (hd.push {cls:=.type "tuple",data:=.seq #[x,y]}) hd.objs.size x y:=ax _ rfl;rw[sz]at new ⊢;exact Z x y _ t f0 h a b p u hf (up _ _ (kd.extBut _ _ D.i2z.symm (g.extBut _ _ D.i1z.symm f))) (up _ _ (kd.extBut _ _ D.TOi2 (g.extBut _ _ D.TOi1 t0))) (k.frame _ _ _ (k.frame _ _ _ r λb d o e=>kd.extBut b o (λq=>D.Iz (q▸d)) e) λb d o e=>up b o e) (l.frame _ _ _ B λb d o e=>up b o e) new λc o K V W X e=>up c o (kd.extBut _ _ X (g.extBut _ _ W (H c o K e)))
theorem zlx (D:ZApart z TI TO i1 i2 p1 p2)(B:Draws prog w A i1 p1 n1 P1 S1)(m:Draws prog w A i2 p2 n2 P2 S2)(hf:ZF f0)(N:s.heap.get? z=Z9 (ZRec TI TO f0 f1))(O:PairAt s.heap TI (.ref i1) (.ref i2))(P:PairAt s.heap TO a b)(h1:S1 i s.heap)(h2:S2 i s.heap)(hl:i=min n1 n2)
  (J:∀R C e,Zk z TO i1 i2 s.heap R->(∃o,R.get? e=Z9 o/\o.cls=.type "StopIteration")->E (.ref e) {s with heap:=R,toks:=C}):
  wpAny (model prog w) A (Builtin.«zip.__next__» {pos:=[.ref z],kw:=[]}) Q E s:=by
 show wpAny (model prog w) A (field (.ref z) 2>>=_) _ E s;apply ac;refine eh N rfl rfl ?_;apply ac;refine eh N rfl rfl ?_;apply ac;refine gn O rfl ?_;apply ac;refine Iw hf N λbf l S f n=>?_;have p:=λc o K e=>n.extBut c o K e;have T:=B.frame _ _ _ h1 λb hb o e=>p b o (λq=>D.yy (q▸hb)) e;have e2:=m.frame _ _ _ h2 λb hb o e=>p b o (λq=>D.yz (q▸hb)) e;cases bf with
 |true=>
  apply ac;refine jr ?_;apply ac;refine eh f rfl rfl ?_;apply ac;refine c9 f (by simp) λha L ka=>?_;replace L:ha.get? z=Z9 (ZRec TI TO .ellipsis S):=L;have F:=B.frame _ _ _ T λb hb o e=>ka.extBut b o (λq=>D.yy (q▸hb)) e;apply ac;apply ac;apply ac;apply n9;apply ac;by_cases U:i<n1
  .refine B.item i _ _ _ U F λx hb C V W g=>ah ?_;replace g:ci i1 ha hb:=g;have tb:=g.extBut _ _ D.TOi1 (ka.extBut _ _ D.TOz (p _ _ D.TOz P));have r:=m.frame _ _ _ (m.frame _ _ _ e2 λb hb o e=>ka.extBut b o (λq=>D.yz (q▸hb)) e) λb h o e=>g.extBut b o (λq=>D.Ao (q▸h)) e;apply ac;refine gn tb rfl ?_;apply ac;refine DC tb λK tc kc=>?_;replace kc:ci TO hb K:=kc;apply ac;refine xo (ah ?_);have X:S2 n2 K:=by rw[show n2=i by omega];exact m.frame _ _ _ r λb h o e=>kc.extBut b o (λq=>D.DB (q▸h)) e
   apply ac;apply ac;apply n9;apply ac;refine m.done _ _ _ X λhd e kd t=>?_;obtain⟨Y,d,j⟩:=t;have G:=kd _ _ D.i2z.symm (kc.extBut _ _ D.TOz.symm (g.extBut _ _ D.i1z.symm L));refine c9 G (by simp) λu _ H=>J u C e (λc o k M v I q=>?_) ⟨Y,H.extBut _ _ (λq=>by subst q;rw[G]at d;cases d;simp at j) d,j⟩;exact H.extBut _ _ k (kd _ _ I (kc.extBut _ _ M (g.extBut _ _ v (ka.extBut _ _ k (p c o k q)))))
  .have y:S1 n1 ha:=show n1=i by omega▸F
   refine B.done _ _ _ y λhd e kd t=>?_;obtain⟨Y,d,j⟩:=t;have G:=kd _ _ D.i1z.symm L;refine c9 G (by simp) λu _ H=>J u s.toks e (λc o k M v I q=>?_) ⟨Y,H.extBut _ _ (λq=>by subst q;rw[G]at d;cases d;simp at j) d,j⟩;exact H.extBut _ _ k (kd _ _ v (ka.extBut _ _ k (p c o k q)))
 |false=>
  apply ac;apply ac;apply ac;apply dz;apply ac;by_cases U:i<n1
  .refine B.item i _ _ _ U T λx hb C V W g=>ah (ah ?_);replace g:ci i1 l hb:=g;have r:S2 n2 hb:=by rw[show n2=i by omega];exact m.frame _ _ _ e2 λb h o e=>g.extBut b o (λq=>D.Ao (q▸h)) e
   apply ac;apply ac;apply dz;apply ac;exact m.done _ _ _ r λhd e kd t=>J hd C e (λc o k M v I q=>kd _ _ I (g.extBut _ _ v (p c o k q))) t
  .have y:S1 n1 l:=show n1=i by omega▸T
   exact B.done _ _ _ y λhd e kd t=>J hd s.toks e (λc o k M v I q=>kd _ _ v (p c o k q)) t
end
section
variable {prog:cg}{w:World}{A:d8}{E:Value->aq->Prop}{s:aq}
theorem z9m (a:s.heap.IsTupleIter it t i)(m:s.heap.IsTuple t items)(o:items[i]?=Z9 x)
  (p:∀e,e.IsTupleIter it t (i+1)->ci it s.heap e->Q x {s with heap:=e}):wpAny (model prog w) A (qe (.ref it)) Q E s:=by
 have ty:=a.typeIs;obtain⟨⟨k,f,g,b⟩,c,hc,hd⟩:=a;obtain⟨⟨l,h,j,d⟩,to,tc,n,q⟩:=m;cases hc;cases hd;cases tc;cases q;apply ac;refine ef ty F.slot_tuple_iterator_next (d3 F.slot_tuple_iterator_next ty F.entry_tuple_iterator_next ?_ (F.args_tuple_iterator_next_1 _));show wpAny _ _ (field (.ref it) 0>>=_) _ _ _;apply ac;refine eh c rfl rfl ?_;apply ac;refine eh c rfl rfl ?_;apply ac;refine gn to rfl ?_
 dsimp only
 rw[d7 i,o];apply ac;refine mw c rfl (by simp) (ah ⟨x,rfl,ah (p _ ⟨_,e8 _ c rfl,rfl,?_⟩ (jt _ _ _))⟩);rfl
theorem z5s (hh:A.handled=Z8)(a:s.heap.IsTupleIter it t i)(q:s.heap.IsTuple t items)(r:items[i]?=Z8)
  (u:∀f e,Heap.ExtBut it s.heap f->(∃o,f.get? e=Z9 o/\o.cls=.type "StopIteration")->E (.ref e) {s with heap:=f}):wpAny (model prog w) A (qe (.ref it)) Q E s:=by
 have ty:=a.typeIs;obtain⟨⟨m,g,h,c⟩,j,hc,hd⟩:=a;obtain⟨⟨p,k,l,d⟩,to,tc,n,v⟩:=q;cases hc;cases hd;cases tc;cases v;apply ac;refine ef ty F.slot_tuple_iterator_next (d3 F.slot_tuple_iterator_next ty F.entry_tuple_iterator_next ?_ (F.args_tuple_iterator_next_1 _));show wpAny _ _ (field (.ref it) 0>>=_) _ _ _;apply ac;refine eh j rfl rfl ?_;apply ac;refine eh j rfl rfl ?_;apply ac;refine gn to rfl ?_
 dsimp only
 rw[d7 i,r];apply ac;refine jr ?_;apply ac;refine mw j rfl (by simp) ?_
 delta Builtin.SmallTypes.stopIteration
 repeat (any_goals (first|assumption|wp_step))
 refine lm hh (u _ _ (λb o x e=>?_) ⟨_,ax _ rfl,rfl⟩);refine af _ (af _ ?_);rw[i7 _ _ _ _ x];exact e
theorem Qs (hh:A.handled=Z8)(it t:Addr)(c:t≠it)(items:Array Value):Draws prog w A it [it,t] items.size (λi v=>items[i]?=Z9 v) (λi h=>h.IsTupleIter it t i/\h.IsTuple t items) where
 live:=λi h st=>let⟨⟨o,d,_⟩,_⟩:=st;⟨o,d⟩
 frame:=λi h f st k=>by obtain⟨⟨o,d,r⟩,b,a,e⟩:=st;exact⟨⟨o,k it (by simp) o d,r⟩,b,k t (by simp) b a,e⟩
 item:=λi l q u g st m=>by refine z9m st.1 st.2 (cj g) λf n j=>?_;obtain⟨b,a,e⟩:=st.2;exact m _ f l.toks (cj g) ⟨n,b,j.extBut t b c a,e⟩ j
 done:=λs Q E st p=>z5s hh st.1 st.2 (i9 (ai _)) p
end
def IsB (h:Heap)(l:Bool)(a:Addr)(xs:Array Value):Prop:=match l with
 |true=>h.IsList a xs
 |false=>h.IsTuple a xs
def i' (h:Heap)(l:Bool)(it a:Addr)(i:Nat):Prop:=match l with
 |true=>h.IsListIter it a i
 |false=>h.IsTupleIter it a i
def gC (K:Z5)(H:Hp)(l:Bool)(a:Addr)(vs:List V):Prop:=match l with
 |true=>SqL K H a vs
 |false=>bN K H a vs
def mI (K:Z5)(H:Hp)(B:Ad->Prop)(l:Bool)(a:Addr)(vs:List V):Prop:=match l with
 |true=>(H a=Z9 (.lst vs)/\B (Z9 a))\/(FL K H a vs/\B Z8)
 |false=>bN K H a vs
abbrev cL (l:Bool)(a:Addr):Obj:={cls:=.type (if l then "list_iterator"else "tuple_iterator"),data:=.fields #[.ref a,.int 0 0]}
theorem mI.keep {K:Z5}(h:mI K H B l a c)(k:Kp B H d):gC K d l a c:=by
 cases l with
 |true=>
  rcases h with⟨h,b⟩|⟨⟨o,h⟩|h,_⟩
  .exact .inl (.inl (k a _ h (.inl b)))
  .exact .inl (.inr ⟨o,k a _ h (.inr True.intro)⟩)
  .exact .inr h
 |false=>exact bN.keep k h
theorem mI.of {K:Z5}(r:Rep K H B v d)(e:seqR d=.ok xs):∃l a vs,v=.ref a/\mI K H B l a vs/\aD K H B vs xs/\xs.length<=aZ:=by
 cases d<;>try (exact(fA e).elim)
 case list ds=>
  have e:(if decide (ds.length<=aZ)=Z7 then Res.ok ds else Res.no)=Res.ok xs:=e;split at e
  .rename_i hc;cases e;obtain⟨a,vs,rfl,h,rs⟩:=r;exact⟨Z7,a,vs,rfl,h,rs,ye hc⟩
  .cases e
 case tuple ds=>
  have e:(if decide (ds.length<=aZ)=Z7 then Res.ok ds else Res.no)=Res.ok xs:=e;split at e
  .rename_i hc;cases e;obtain⟨a,vs,rfl,h,rs⟩:=r;exact⟨Z6,a,vs,rfl,h,rs,ye hc⟩
  .cases e
section
variable {X:Cx}{pins:List (Addr×Obj)}{σ:L2.St}{H:Hp}{s:aq}
theorem gC.items (I:Inv X d f H s)(h:gC X.K H l a e):∃b,Vals e b/\IsB s.heap l a b.toArray/\e.length=b.length:=by
 cases l with
 |true=>obtain⟨b,c,p,_⟩:=I.list h;exact⟨b,c,p.isList,c.length⟩
 |false=>obtain⟨b,c,p,_⟩:=I.tuple h;exact⟨b,c,p,c.length⟩
end
theorem uR (hh:A.handled=Z8)(l:Bool)(it a:Addr)(b:a≠it)(items:Array Value):Draws prog w A it [it,a] items.size (λi v=>items[i]?=Z9 v) (λi h=>i' h l it a i/\IsB h l a items):=by
 cases l with
 |true=>exact Draws.list hh it a b items
 |false=>exact Qs hh it a b items
theorem i'.live (x:i' h l it a i):∃o,h.get? it=Z9 o/\∀v,o.data≠.cell v:=by cases l<;>(obtain⟨o,b,_,hd⟩:=x;exact⟨o,b,λv z=>by rw[hd]at z;cases z⟩)
theorem i'.keep (x:i' h l it a i)(k:∀o,h.get? it=Z9 o->b.get? it=Z9 o):i' b l it a i:=by cases l<;>(obtain⟨o,c,r⟩:=x;exact⟨o,k o c,r⟩)
theorem i'.new (x:h.get? b=Z9 (cL l a)):i' h l b a 0:=by cases l<;>exact⟨_,x,rfl,rfl⟩
theorem IsB.lt (x:IsB h l a c):a<h.objs.size:=by cases l<;>(obtain⟨o,b,_⟩:=x;exact bj b)
theorem IsB.push (x:IsB h l a b)(o:Obj):IsB (h.push o) l a b:=by cases l<;>(obtain⟨q,c,r⟩:=x;exact⟨q,af _ c,r⟩)
theorem Ap (h:IsB s.heap l a c)(b:Q (.ref s.heap.objs.size) {s with heap:=s.heap.push (cL l a)}):wpAny (model prog w) A (rq (.ref a)) Q E s:=by
 cases l with
 |true=>exact jm h b
 |false=>exact vw h b
section
variable {X:Cx}{pins:List (Addr×Obj)}{σ:L2.St}{H:Hp}{s:aq}
theorem _root_.L2.Inv.turnedTL {h:List Addr}(I:Inv X a l H s)(f:∀b∈h,FpOk X a H b)(keep:∀b q,b∉h->s.heap.get? b=Z9 q->i.get? b=Z9 q)(j:s.heap.objs.size<=p)
  (new:z1b X.prog X.w (upd H p (.tup xs)) i p (.tup xs)):Inv X a l (upd H p (.tup xs)) {s with heap:=i,toks:=t'}:=by
 have hn:=I.hok.fresh j;have d:∀b u,H b=Z9 u->b∉h:=λb u k z=>by rw[(f b z).1]at k;cases k
 refine I.step (λb g=>?_) (λb q _ _ hc e _=>keep b q hc e) (λb q _ _ hc e _=>⟨q.slots,keep b q hc e⟩) (λb q _ e n=>by rw[aB (cu (cr (bj e) j))];exact n) (λb q hc e=>⟨q,keep b q hc e⟩) (λb xs q=>by rw[aB (dE q hn)];exact q) (λb u xs q=>by rw[aB (dE q hn)];exact q) (λb ps q=>⟨#[],by rw[aB (dE q hn),q];simp⟩) (λm hm=>?_) (λb u e=>?_) I.bare
 .obtain⟨y,o,A,r,t,x⟩:=f b g;exact⟨r,o,t,x⟩
 .exact hm.at λq e=>keep _ q (λz=>(f _ z).2.1 rfl) e
 .by_cases g:b=p
  .subst g;rw[aT]at e;cases e;exact new
  .rw[aB g]at e;refine(I.hok b u e).stay (λc v hc q=>keep c v ?_ q) (λc q=>by rw[aB (dE q hn)];exact q) λc xs q=>by rw[aB (dE q hn)];exact q
   rcases hc with rfl|hc
   .exact d _ _ e
   .exact d _ _ hc
theorem _root_.L2.Inv.jA {g:List Addr}(I:Inv X a j H s)(f:∀b∈g,FpOk X a H b)(keep:∀b q,b∉g->s.heap.get? b=Z9 q->k.get? b=Z9 q):Inv X a j H {s with heap:=k,toks:=t'}:=by
 have d:∀b u,H b=Z9 u->b∉g:=λb u h z=>by rw[(f b z).1]at h;cases h
 refine I.step (λb l=>?_) (λb q _ _ hc e _=>keep b q hc e) (λb q _ _ hc e _=>⟨q.slots,keep b q hc e⟩) (λb q _ e n=>n) (λb q hc e=>⟨q,keep b q hc e⟩) (λb i q=>q) (λb u i q=>q) (λb ps q=>⟨#[],by rw[q];simp⟩) (λm hm=>?_) (λb u e=>?_) I.bare
 .obtain⟨w,o,x,p,r,t⟩:=f b l;exact⟨p,o,r,t⟩
 .exact hm.at λq e=>keep _ q (λz=>(f _ z).2.1 rfl) e
 .refine(I.hok b u e).stay (λc v hc q=>keep c v ?_ q) (λc q=>q) λc i q=>q;rcases hc with rfl|hc
  .exact d _ _ e
  .exact d _ _ hc
end
theorem DD (f:Vals b a)(d:i<b.length)(g:a.toArray[i]?=Z9 x):∃v,b[i]?=Z9 v/\RelV v x:=by
 refine⟨b[i],am d,?_⟩;obtain⟨u,e,h⟩:=f.get (am d);have c:a[i]?=Z9 x:=by simpa using g
 rw[c]at e;cases e;exact h
def DE (K:Z5)(l:Bool)(t:Addr)(vs:List V):It:=⟨λi H=>gC K H l t vs/\i<vs.length,λi H x H'=>∃p v,vs[i]?=Z9 v/\H p=Z8/\x=.ref p/\H'=upd H p (.tup [.int i,v]),λi H=>gC K H l t vs/\i=vs.length⟩
theorem zcx {K:Z5}(V:t≠c)(Y:t≠e)(B:e≠c):
  Turn P w K (.Tuple j x1 pos) (DE K l t vs) [e,c] e (λi h=>(∃old,IsEnum h e c i old)/\i' h l c t i) where
 mem:=by simp
 obj:=λi h st b hb=>by
  obtain⟨⟨old,d⟩,a⟩:=st;rcases(au.mp hb)with rfl|hb
  .exact⟨_,d,λv z=>by cases z⟩
  .obtain rfl:b=c:=by simpa using hb
   exact a.live
 keep:=λi h G st k=>by obtain⟨⟨old,d⟩,a⟩:=st;exact⟨⟨old,k e (by simp) _ d⟩,a.keep λo=>k c (by simp) o⟩
 item:=by
  intro X J L M N i m s σ H E I hf st O;subst J L M;obtain⟨Q,R⟩:=O;obtain⟨⟨old,d⟩,a⟩:=st;obtain⟨g,rv,p,hl⟩:=gC.items I Q;have S:X.A.in1.handled=none:=I.ok.hd N;have D:=uR (prog:=X.prog) (w:=X.w) S l c t V g.toArray;obtain⟨oi,T,_⟩:=a.live;refine wpAny_pyNext_enum_itemD D d ⟨a,p⟩ (by grind) B (by simp[B,Ne.symm Y]) λx G C hx n U r Z kp=>⟨_,rfl,?_⟩;have F:s.heap.objs.size≠e/\s.heap.objs.size≠c:=⟨λz=>dk _ (z▸bj d),λz=>dk _ (z▸bj T)⟩;refine(WalksT.enumerateD D e B (by simp[B,Ne.symm Y]) (by simp)).go j x1 pos i s.heap.objs.size {s with heap:=G,toks:=C+1} _ _ ⟨⟨x,n⟩,U,F.1,F.2⟩ λpP f u=>?_;have y:s.heap.objs.size∉ [e,c]:=by simp[F.1,F.2]
  obtain⟨v,hv,rx⟩:=DD rv R hx;have I1:=I.turnedTL (t':=C+1) (xs:=[.int i,v]) hf (λb q hb z=>u b q hb (kp b q (λz=>hb (by simp[z])) (λz=>hb (by simp[z])) z)) (ai _) ⟨by rw[dw];simp,[.int i C,x],.cons ⟨C,rfl⟩ (.cons rx .nil),0,(u s.heap.objs.size _ y r)⟩;refine⟨.ref s.heap.objs.size,_,I1,rfl,⟨_,v,hv,I.hok.fresh (ai _),rfl,rfl⟩,⟨f.1,f.2.1⟩,λb hb=>?_⟩;rw[aB λz:b=s.heap.objs.size=>y (z▸hb)];exact(hf b hb).1
 done:=by intro X J L M N i m s σ H E I hf st O;subst J L M;obtain⟨Q,R⟩:=O;obtain⟨⟨old,d⟩,a⟩:=st;obtain⟨g,rv,p,hl⟩:=gC.items I Q;have S:X.A.in1.handled=none:=I.ok.hd N;exact wpAny_pyNext_enum_endD (uR (prog:=X.prog) (w:=X.w) S l c t V g.toArray) d ⟨by rw[cb,<-hl,<-R];exact a,p⟩ λG eb=>⟨rfl,I.jA hf λb o hb z=>eb b o (λq=>hb (by simp[q])) z⟩
 self:=λ_ _ _ _ _ st h=>by obtain⟨⟨old,d⟩,_⟩:=st;exact wx d h
theorem IA:∀a (k i:Nat),(z22 k a)[i]?=(a[i]?).map λx=>.tuple [.int ((k+i:Nat):Int),x]
 | [],k,i=>by simp[z22]
 |x::a,k,0=>by simp[z22]
 |x::a,k,i+1=>by
  rw[z22,l9,l9,IA a (k+1) i];have:k+1+i=k+(i+1):=by omega
  rw[this]
theorem Aq:∀a k,(z22 k a).length=a.length
 | [],_=>rfl
 |x::a,k=>by rw[z22,bu,bu,Aq a]
theorem Qt {K:Z5}(b:mI K H B l t c)(rs:aD K H B c g)(n:g.length<=bh):Walk K (DE K l t c) B H (z22 0 g):=by
 have o:=rs.length;constructor
 .rw[Aq];exact n
 .intro j kp i h;rw[Aq]at h;exact⟨b.keep kp,by omega⟩
 .intro j kp;exact⟨b.keep kp,by rw[Aq];exact o.symm⟩
 .rintro j kp i x u h ⟨p,v,r,k,rfl,rfl⟩
  obtain⟨d,hd,s⟩:=aD.eY rs r;refine⟨Same.upd k,.tuple [.int i,d],by rw[IA,hd];simp,p,[.int i,v],rfl,bN.of aT,?_⟩;refine aD.cons rfl (aD.cons ?_ rfl);exact Rep.keep (λa q e f=>by have m:=kp a q e f;rw[aB (dE m k)];exact m) (λ_ z=>z) d s
theorem z9y (l:Bool)(t:Addr)(items:Array Value):Meets (Builtin.«enumerate.__new__» {pos:=[.type "enumerate",.ref t]}) fun _ R s=>
  IsB s.heap l t items/\R (.ok (.ret (.ref (s.heap.push (cL l t)).objs.size))) {s with heap:=(s.heap.push (cL l t)).push {cls:=.type "enumerate",data:=.fields #[.none,.bool Z6,.ref s.heap.objs.size,gc 0,.none,.none]}}:=by
 rintro prog w A R s ⟨a,d⟩
 have sub:=sub_enumerate
 delta Builtin.«enumerate.__new__»
 repeat (any_goals (first|assumption|(apply Ap a)|wp_step))
 refine wpAny_stack λst _ _ _=>?_;refine gq (Q:=λ_ c=>c=s) (ah rfl) (λb c hs=>?_) λ_ _ x=>x;subst hs;cases b
 all_goals repeat (any_goals (first|assumption|(apply Ap a)|wp_step))
 all_goals exact d
theorem zfp (a:IsB s.heap l t items)
  (b:Q (.ref (s.heap.push (cL l t)).objs.size) {s with heap:=(s.heap.push (cL l t)).push {cls:=.type "enumerate",data:=.fields #[.none,.bool Z6,.ref s.heap.objs.size,gc 0,.none,.none]}}):wpAny (model prog w) A (call (.type "enumerate") [.ref t]) Q E s:=by
 refine callType_new F.called_enumerate dc (F.typeCall_enumerate_1 _) (F.newCall_enumerate_1 _) (λobj=>?_) F.entry_enumerate_new (z9y l t items) ⟨a,⟨_,ax _ rfl,rfl⟩,b⟩;exact F.args_object_init_2 _ _
section
variable {X:Cx}{pins:List (Addr×Obj)}{σ:L2.St}
theorem z3x (k:Inv X a m f c)(C:RelV y v)(D:Rep X.K f B y d)(e:seqR d=.ok E)(q:∀J,Walk X.K J B f (z22 0 E)->R J f):
  wpAny (model X.prog X.w) X.A (call (.type "enumerate") [v]) (λF G=>wpAny (model X.prog X.w) X.A (rq F) (tY X a m (.Tuple u O tp) R) X.xe G) X.xe c:=by
 obtain⟨l,t,H,rfl,x,n,I⟩:=mI.of D e;cases C;obtain⟨L,M,pt,_⟩:=gC.items k (x.keep (Kp.of (Same.refl f)));refine zfp pt ?_;generalize p:c.heap.push (cL l t)=i;have j:i.objs.size=c.heap.objs.size+1:=p▸sk _ _;have r:Inv X a m f {c with heap:=i}:=k.kept λb o e=>p▸af _ e;generalize g:i.push {cls:=.type "enumerate",data:=.fields #[.none,.bool Z6,.ref c.heap.objs.size,gc 0,.none,.none]}=h;have N:Inv X a m f {c with heap:=h}:=r.kept λb o e=>g▸af _ e;have g1:h.get? i.objs.size=Z9 {cls:=.type "enumerate",data:=.fields #[.none,.bool Z6,.ref c.heap.objs.size,gc 0,.none,.none]}:=g▸ax _ rfl;have g2:h.get? c.heap.objs.size=Z9 (cL l t):=by rw[<-g];refine af _ ?_;rw[<-p];exact ax _ rfl
 have z:=pt.lt;refine wx g1 (⟨i.objs.size,[i.objs.size,c.heap.objs.size],_,DE X.K l t H,f,rfl,N,zcx (cu z) (cu (mo z (j▸Nat.lt_succ_self _))) (j▸Nat.succ_ne_self _),⟨⟨.none,g1⟩,i'.new g2⟩,λb s=>?_,q _ (Qt x n (jX I))⟩);rcases(au.mp s)with rfl|s
 .exact r.gI (ai _) (r.hok.fresh (ai _))
 .obtain rfl:b=c.heap.objs.size:=by simpa using s
  exact k.gI (ai _) (k.hok.fresh (ai _))
end
def IB (K:Z5)(l1:Bool)(a1:Addr)(vs:List V)(l2:Bool)(a2:Addr)(ws:List V):It:=⟨λi H=>gC K H l1 a1 vs/\gC K H l2 a2 ws/\i<min vs.length ws.length,λi H x H'=>∃p v w,vs[i]?=Z9 v/\ws[i]?=Z9 w/\H p=Z8/\x=.ref p/\H'=upd H p (.tup [v,w]),λi H=>gC K H l1 a1 vs/\gC K H l2 a2 ws/\i=min vs.length ws.length⟩
def IC (z TI TO i1 i2:Addr)(l1:Bool)(a1:Addr)(l2:Bool)(a2:Addr)(i:Nat)(h:Heap):Prop:=(∃f0 f1,ZF f0/\h.get? z=Z9 (ZRec TI TO f0 f1))/\PairAt h TI (.ref i1) (.ref i2)/\(∃a b,PairAt h TO a b)/\i' h l1 i1 a1 i/\i' h l2 i2 a2 i
theorem zre {TI TO:Addr}(ht:(isTup e||isNm e)=Z7)(hf:ZF a)(d:s.heap.get? z=Z9 (ZRec TI TO a i))
  (f:∀b c,ZF c->b.get? z=Z9 (ZRec TI TO c i)->ci z s.heap b->Q () {s with heap:=b}):wpAny (model prog w) A (j2 e (.ref z) (.ref T)) Q E s:=by
 cases e<;>first|(cases ht;done)|exact ah (f s.heap a hf d (Heap.SameBut.refl ..))|skip
 delta j2
 apply ac;refine vj d ?_;show wpAny _ _ (if(_&&(a::_:List Value).toArray[0]?==Z9 (gc T))=Z7 then _ else _) Q E s;by_cases h:(Z9 a==Z9 (gc T))=Z7
 .rw[ya (by simpa using h)];apply ac;exact jr (c9 d (by simp) λb g j=>f b .none (.inl rfl) g j)
 .rw[yb (by simpa using h)];exact ah (f s.heap a hf d (Heap.SameBut.refl ..))
theorem zfb {TI TO:Addr}(D:ZApart z TI TO i1 f p q)(r:Draws prog w A.in1 i1 p t u m)(v:Draws prog w A.in1 f q B P2 n)(hf:ZF f0)(o:s.heap.get? z=Z9 (ZRec TI TO f0 T))(g:PairAt s.heap TI (.ref i1) (.ref f))(h:PairAt s.heap TO a b)(C:m i s.heap)(G:n i s.heap)(H:i<t)(l2:i<B)
  (I:∀x y c j d e k l,u i x->P2 i y->ZF d->c.get? z=Z9 (ZRec TI TO d e)->PairAt c TO k l->m (i+1) c->n (i+1) c->PairAt c s.heap.objs.size x y->Zk z TO i1 f s.heap c->Q (Z9 (.ref s.heap.objs.size)) {s with heap:=c,toks:=j}):wpAny (model prog w) A (mj (.ref z)) Q E s:=by
 have ty:s.TypeIs (.ref z) "zip":=⟨_,o,rfl⟩
 delta mj
 apply ac;apply lv;refine ef ty F.slot_zip_next (d3 F.slot_zip_next ty F.entry_zip_next ?_ (F.args_zip_next_1 _));exact zft D r v hf o g h C G H l2 λx y c j d e k l J K L M N O P R S=>ah (I x y c j d e k l J K L M N O P R S)
theorem zff {TI TO:Addr}(D:ZApart z TI TO i1 c k l)(m:Draws prog w A.in1 i1 k n P1 p)(q:Draws prog w A.in1 c l r P2 t)(hf:ZF u)(h:s.heap.get? z=Z9 (ZRec TI TO u f1))(d:PairAt s.heap TI (.ref i1) (.ref c))(f:PairAt s.heap TO a b)(v:p i s.heap)(x:t i s.heap)(hl:i=min n r)
  (y:∀g j,Zk z TO i1 c s.heap g->Q Z8 {s with heap:=g,toks:=j}):wpAny (model prog w) A (mj (.ref z)) Q E s:=by
 have ty:s.TypeIs (.ref z) "zip":=⟨_,h,rfl⟩
 delta mj
 apply ac;apply lv;refine ef ty F.slot_zip_next (d3 F.slot_zip_next ty F.entry_zip_next ?_ (F.args_zip_next_1 _));refine zlx D m q hf h d f v x hl λg j e kp B=>?_;obtain⟨o,ho,hc⟩:=B;apply ac;exact ny ⟨o,ho,hc⟩ t6 (ah (y _ _ kp))
theorem zgt {K:Z5}{TI TO:Addr}(ht:(isTup tg||isNm tg)=Z7)(D:ZApart z TI TO i1 m [i1,B] [m,a2])(n1:B≠i1)(n2:a2≠m):
  Turn P w K tg (IB K l1 B vs l2 a2 ws) [z,TI,TO,i1,m] z (IC z TI TO i1 m l1 B l2 a2) where
 mem:=by simp
 obj:=λi h st b hb=>by
  obtain⟨⟨C,G,_,g⟩,d,⟨a,c,f⟩,n,p⟩:=st;simp at hb;rcases hb with rfl|rfl|rfl|rfl|rfl
  .exact⟨_,g,λv q=>by cases q⟩
  .exact⟨_,d,λv q=>by cases q⟩
  .exact⟨_,f,λv q=>by cases q⟩
  .exact n.live
  .exact p.live
 keep:=λi h h' st k=>by obtain⟨⟨C,G,hf,g⟩,d,⟨a,c,f⟩,n,p⟩:=st;exact⟨⟨C,G,hf,k z (by simp) _ g⟩,k TI (by simp) _ d,⟨a,c,k TO (by simp) _ f⟩,n.keep λo=>k i1 (by simp) o,p.keep λo=>k m (by simp) o⟩
 item:=by
  intro X U V Y J i L s σ H E I hf st Z;subst U V Y;obtain⟨r,t,hi⟩:=Z;obtain⟨⟨C,G,zf,g⟩,d,⟨a,c,f⟩,n,p⟩:=st;obtain⟨j,M,b1,e1⟩:=gC.items I r;obtain⟨l,N,b2,e2⟩:=gC.items I t;have O:X.A.in1.handled=none:=I.ok.hd J;refine zfb D (uR (prog:=X.prog) (w:=X.w) O l1 i1 B n1 j.toArray) (uR (prog:=X.prog) (w:=X.w) O l2 m a2 n2 l.toArray) zf g d f ⟨n,b1⟩ ⟨p,b2⟩ (by grind) (by grind) λx y h' tk XM Qu a' b' hx hy Qv Ie Q Qw xG new kp=>⟨_,rfl,?_⟩;refine zre ht Qv Ie λpP R S T sb=>?_;have lt:∀{c o},s.heap.get? c=Z9 o->s.heap.objs.size≠c:=λe q=>dk _ (q▸bj e);obtain⟨o1,Qx,_⟩:=n.live;obtain⟨o2,Qy,_⟩:=p.live;have Qz:s.heap.objs.size∉ [z,TI,TO,i1,m]:=by simp[lt g,lt d,lt f,lt Qx,lt Qy]
  have up:=λc o J e=>sb.extBut c o J e;obtain⟨v,hv,rx⟩:=DD M (by omega) hx;obtain⟨u,hu,ry⟩:=DD N (by omega) hy;have I1:=I.turnedTL (t':=tk) hf (λb q hb e=>up b q (λq=>hb (by simp[q])) (kp b q (λq=>hb (by simp[q])) (λq=>hb (by simp[q])) (λq=>hb (by simp[q])) (λq=>hb (by simp[q])) e)) (ai _) ⟨by rw[dw];simp,[x,y],.cons rx (.cons ry .nil),0,(up _ _ (lt g) new)⟩;refine⟨.ref s.heap.objs.size,_,I1,rfl,⟨_,v,u,hv,hu,I.hok.fresh (ai _),rfl,rfl⟩,⟨⟨R,Qu,S,T⟩,up _ _ D.TIz (kp _ _ D.TIz D.TITO D.TIi1 D.TIi2 d),⟨a',b',up _ _ D.TOz Q⟩,Qw.1.keep λo=>up _ o D.i1z,xG.1.keep λo=>up _ o D.i2z⟩,λb hb=>?_⟩;rw[aB λq:b=s.heap.objs.size=>Qz (q▸hb)];exact(hf b hb).1
 done:=by intro X U V Y J i L s σ H E I hf st Z;subst U V Y;obtain⟨r,t,hi⟩:=Z;obtain⟨⟨C,G,zf,g⟩,d,⟨a,c,f⟩,n,p⟩:=st;obtain⟨j,M,b1,e1⟩:=gC.items I r;obtain⟨l,N,b2,e2⟩:=gC.items I t;have O:X.A.in1.handled=none:=I.ok.hd J;refine zff D (uR (prog:=X.prog) (w:=X.w) O l1 i1 B n1 j.toArray) (uR (prog:=X.prog) (w:=X.w) O l2 m a2 n2 l.toArray) zf g d f ⟨n,b1⟩ ⟨p,b2⟩ (by grind) λh' tk kp=>⟨rfl,I.jA hf λb q hb e=>?_⟩;exact kp b q (λq=>hb (by simp[q])) (λq=>hb (by simp[q])) (λq=>hb (by simp[q])) (λq=>hb (by simp[q])) e
 self:=λ_ _ _ _ _ st h=>by obtain⟨⟨C,G,_,g⟩,_⟩:=st;have ty:Shared.TypeIs _ (.ref z) "zip":=⟨_,g,rfl⟩;refine my ty F.slot_zip_iter (d3 F.slot_zip_iter ty F.entry_zip_iter ?_ (F.args_zip_iter_1 _));exact ah ⟨_,rfl,"zip",_,ty,F.slot_zip_next.lookup,h⟩
theorem ID:∀a b (i:Nat) {x y:D},a[i]?=Z9 x->b[i]?=Z9 y->(zipD a b)[i]?=Z9 (.tuple [x,y])
 |x::a,y::b,0,_,_,c,d=>by cases c;cases d;rfl
 |x::a,y::b,i+1,_,_,c,d=>ID a b i c d
 | [],_,i,_,_,c,_=>by simp at c
 |_::_,[],i,_,_,_,d=>by simp at d
theorem Ar:∀a b,(zipD a b).length=min a.length b.length
 | [],_=>by simp[zipD]
 |_::_,[]=>by simp[zipD]
 |x::a,y::b=>by show(zipD a b).length+1=min (a.length+1) (b.length+1);rw[Ar a b];omega
theorem QA {K:Z5}(l:mI K H B w y m)(b:mI K H B l2 a2 ws)(n:aD K H B m c)(o:aD K H B ws r)(C:c.length<=bh):Walk K (IB K w y m l2 a2 ws) B H (zipD c r):=by
 have D:=n.length;have E:=o.length;constructor
 .rw[Ar];omega
 .intro g kp i h;rw[Ar]at h;exact⟨l.keep kp,b.keep kp,by omega⟩
 .intro g kp;exact⟨l.keep kp,b.keep kp,by rw[Ar];omega⟩
 .rintro g kp i x F h ⟨p,v,u,A,hu,s,rfl,rfl⟩
  obtain⟨d,hd,rv⟩:=aD.eY n A;obtain⟨t,j,k⟩:=aD.eY o hu;have kk:∀a q,H a=Z9 q->(B (Z9 a)\/Fix q)->upd g p (.tup [v,u]) a=Z9 q:=λa q e f=>by have b:=kp a q e f;rw[aB (dE b s)];exact b
  exact⟨Same.upd s,.tuple [d,t],ID c r i hd j,p,[v,u],rfl,bN.of aT,aD.cons (Rep.keep kk (λ_ z=>z) d rv) (aD.cons (Rep.keep kk (λ_ z=>z) t k) rfl)⟩
theorem zdo (b l2:Bool)(a a2:Addr)(g h:Array Value):Meets (Builtin.«zip.__new__» ⟨[.type "zip",.ref a,.ref a2],[]⟩) fun _ R s=>IsB s.heap b a g/\IsB s.heap l2 a2 h/\
  ∀c d e f i,c=s.heap.push (cL b a)->d=c.push (cL l2 a2)->e=d.push {cls:=.type "tuple",data:=.seq #[.ref s.heap.objs.size,.ref c.objs.size]}->f=e.push {cls:=.type "tuple",data:=.seq #[.none,.none]}->i=f.push {cls:=.type "zip",data:=.fields #[.none,.bool Z6,.bool Z6,.ref d.objs.size,.ref e.objs.size]}->R (.ok (.ret (.ref f.objs.size))) {s with heap:=i}:=by
 rintro prog w A R s ⟨l,m,n⟩
 have sub:=sub_zip;obtain⟨j,gs,dp,k,os⟩:=s;have o:IsB (Shared.heap ⟨j,gs,dp,k,os⟩) b a g:=l;have p:IsB (Shared.heap ⟨j.push (cL b a),gs,dp,k,os⟩) l2 a2 h:=m.push _
 wp_walk using Ap o,Ap p
 exact n _ _ _ _ _ rfl rfl rfl rfl rfl
section
variable {X:Cx}{pins:List (Addr×Obj)}{σ:L2.St}
theorem z8n (ht:(isTup W||isNm W)=Z7)(t:Inv X pins σ g c)(r1:RelV y1 u1)(r2:RelV y2 u2)(L:Rep X.K g B y1 d1)(M:Rep X.K g B y2 d2)(e1:seqR d1=.ok xs)(e2:seqR d2=.ok ys)(q:∀J,Walk X.K J B g (zipD xs ys)->R J g):
  wpAny (model X.prog X.w) X.A (call (.type "zip") [u1,u2]) (λv' s2=>wpAny (model X.prog X.w) X.A (rq v') (tY X pins σ W R) X.xe s2) X.xe c:=by
 obtain⟨G,N,Y,rfl,Z,w1,z1⟩:=mI.of L e1;obtain⟨l2,a2,ws,rfl,q2,w2,z2⟩:=mI.of M e2;cases r1;cases r2;obtain⟨u,_,b1,_⟩:=gC.items t (Z.keep (Kp.of (Same.refl g)));obtain⟨v,_,b2,_⟩:=gC.items t (q2.keep (Kp.of (Same.refl g)));refine callType_new F.called_zip (by decide) (F.typeCall_zip_2 _ _) (F.newCall_zip_2 _ _) (λobj=>F.args_object_init_3 obj _ _) F.entry_zip_new (zdo G l2 N a2 u.toArray v.toArray) ⟨b1,b2,?_⟩;intro m k s n H O Q S U k5;have d:m.objs.size=c.heap.objs.size+1:=O▸sk _ _;have p:k.objs.size=c.heap.objs.size+2:=by rw[Q,sk,d]
 have r:s.objs.size=c.heap.objs.size+3:=by rw[S,sk,p]
 have C:n.objs.size=c.heap.objs.size+4:=by rw[U,sk,r]
 have p2:∀b o,m.get? b=Z9 o->k.get? b=Z9 o:=λb o e=>by rw[Q];exact af _ e
 have V:∀b o,k.get? b=Z9 o->s.get? b=Z9 o:=λb o e=>by rw[S];exact af _ e
 have I:∀b o,s.get? b=Z9 o->n.get? b=Z9 o:=λb o e=>by rw[U];exact af _ e
 have D:∀b o,n.get? b=Z9 o->H.get? b=Z9 o:=λb o e=>by rw[k5];exact af _ e
 have I5:Inv X pins σ g {c with heap:=H}:=t.kept λb o e=>D b o (I b o (V b o (p2 b o ((λb o e=>by rw[O];exact af _ e) b o e))));have g5:H.get? n.objs.size=Z9 (ZRec k.objs.size s.objs.size .none Z6):=k5▸ax _ rfl;have t1:=b1.lt;have t2:=b2.lt;have Da:ZApart n.objs.size k.objs.size s.objs.size c.heap.objs.size m.objs.size [c.heap.objs.size,N] [m.objs.size,a2]:=by have f:∀{i j:Nat},i≠j->c.heap.objs.size+i≠c.heap.objs.size+j:=λh z=>h (Nat.add_left_cancel z);have l:∀{j:Nat},0≠j->c.heap.objs.size≠c.heap.objs.size+j:=λh=>f h;have no:∀{x y z:Addr},x≠y->x≠z->x∉ [y,z]:=λm k h=>(au.mp h).elim m λq=>k (ag.mp q);have na:∀{a:Addr} {j:Nat},a<c.heap.objs.size->c.heap.objs.size+j≠a:=λh z=>dk _ (cr h (z▸la _ _));rw[d,p,r,C];exact⟨f (by decide),f (by decide),l (by decide),f (by decide),f (by decide),(l (by decide)).symm,f (by decide),(l (by decide)).symm,f (by decide),l (by decide),no (l (by decide)).symm (na t1),no (l (by decide)).symm (na t1),no (l (by decide)).symm (na t1),no (f (by decide)) (na t2),no (f (by decide)) (na t2),no (l (by decide)) (na (j:=0) t2)⟩
 have T:=zgt (P:=X.prog) (w:=X.w) (K:=X.K) (l1:=G) (l2:=l2) (vs:=Y) (ws:=ws) ht Da (cu t1) (d▸cu (qh t2));have St:IC n.objs.size k.objs.size s.objs.size c.heap.objs.size m.objs.size G N l2 a2 0 H:=⟨⟨.none,Z6,.inl rfl,g5⟩,D _ _ (I _ _ (S▸ax _ rfl)),⟨_,_,(D _ _ (U▸ax _ rfl))⟩,i'.new (D _ _ (I _ _ (V _ _ (p2 _ _ (O▸ax _ rfl))))),i'.new (D _ _ (I _ _ (V _ _ (Q▸ax _ rfl))))⟩;refine⟨⟨_,g5,rfl⟩,T.self _ 0 _ _ _ St ⟨n.objs.size,_,_,_,g,rfl,I5,T,St,λb hb=>?_,q _ (QA Z q2 w1 w2 (jX z1))⟩⟩
 have E:c.heap.objs.size<=b:=by
  rw[d,p,r,C]at hb;simp at hb;rcases hb with rfl|rfl|rfl|rfl|rfl
  .exact la _ _
  .exact la _ _
  .exact la _ _
  .exact ai _
  .exact la _ _
 exact t.gI E (t.hok.fresh E)
end
section
variable {X:Cx}{a b:Expr}{fa fb:Rho->Res GD}{p pos:Pos}
theorem DF:db "enumerate"=Z9 (.type "enumerate"):=by decide+kernel
theorem IE:db "zip"=Z9 (.type "zip"):=by decide+kernel
theorem DG (hs:isStar a=Z6)(c:PE X a (tD X.K fa)):PA X [a] (tDA X.K λb=>fa b>>=λx=>.ok [x]):=by refine PA.imp (C5 hs c HJ) λg H Q ⟨b,F,z,so,e,q⟩=>⟨b,F,z,so,?_,q⟩;obtain⟨x,d,e⟩:=Res.aA e;show(fa b>>=λx=>Res.ok []>>=λf=>Res.ok (x::f))=_;rw[d];exact e
theorem IF (hs:isStar a=Z6)(d:isStar b=Z6)(f:PE X a (tD X.K fa))(hb:PE X b (tD X.K fb)):PA X [a,b] (tDA X.K λc=>fa c>>=λx=>fb c>>=λy=>.ok [x,y]):=by refine PA.imp (C5 hs f (DG d hb)) λj H Q ⟨c,F,z,so,e,q⟩=>⟨c,F,z,so,?_,q⟩;obtain⟨x,g,e⟩:=Res.aA e;obtain⟨y,h,e⟩:=Res.aA e;show(fa c>>=λx=>(fb c>>=λy=>Res.ok [y])>>=λi=>Res.ok (x::i))=_;rw[g,h];exact e
theorem As {fs:Rho->Res GD}(h:(fs ρ>>=λx=>Res.ok [x])=.ok ys):∃x,fs ρ=.ok x/\ys=[x]:=by obtain⟨x,e,h⟩:=Res.aA h;cases h;exact⟨x,e,rfl⟩
theorem DH {K:Z5}(so:StOk K F H j k)(hc:pL x=Z7)(e:seqR x.2=.ok l)(c:Rep K f (BG F H x.1) v x.2):∃B,Rep K f B v x.2/\(∀a,B (Z9 a)->F.O a=Z8)/\∀a,B a->BI F .al a:=by
 obtain⟨g,d⟩:=x;cases d<;>try (exact(fA e).elim)
 case list ds=>
  have b:g≠.al:=λz=>by subst z;cases hc
  exact⟨_,c,λa h=>Ds so b h,λa h=>BI.of so.aH (BG.aH so.aH h)⟩
 case tuple ds=>
  rcases gz.mp hc with b|i
  .have b:g≠ .al:=λz=>by subst z;cases b
   exact⟨_,c,λa h=>Ds so b h,λa h=>BI.of so.aH (BG.aH so.aH h)⟩
  .exact⟨λ_=>False,Rep.bD _ i c,λ_ h=>h.elim,λ_ h=>h.elim⟩
theorem QB (h:(fa ρ>>=λx=>fb ρ>>=λy=>Res.ok [x,y])=.ok ys):∃x y,fa ρ=.ok x/\fb ρ=.ok y/\ys=[x,y]:=by obtain⟨x,e,h⟩:=Res.aA h;obtain⟨y,a,h⟩:=Res.aA h;cases h;exact⟨x,y,e,a,rfl⟩
theorem DI (ht:(isTup tg||isNm tg)=Z7)(hm:X.mg "zip"=Z8)(t:Gl X "zip")(hs:isStar a=Z6)(f:isStar b=Z6)(ha:PE X a (tD X.K fa))(hb:PE X b (tD X.K fb)):PI X tg (.Call (.Name "zip" p) [a,b] [] pos) (tDW X.K λρ=>fa ρ>>=λx=>fb ρ>>=λy=>seqR x.2>>=λn=>seqR y.2>>=λo=>.ok (.al,zipD n o)):=by
 rintro g s u H R I ⟨ρ,F,w,so,e,q⟩
 obtain⟨x,v,e⟩:=Res.aA e;obtain⟨y,A,e⟩:=Res.aA e;obtain⟨n,B,e⟩:=Res.aA e;obtain⟨o,C,e⟩:=Res.aA e;cases e;refine Call_ (z2d I t hm IE (PyProof.Rows.callWith_type1 (aI (IF hs f ha hb pos g s u H (λh d=>Same H d/\dY X.K F H d h [x,y]) I ⟨ρ,F,[x,y],so,by show(fa ρ>>=λx=>fb ρ>>=λy=>Res.ok [x,y])=_;rw[v,A];rfl,λh d r i=>⟨r,i⟩⟩) λG r ⟨h,d,D,E,sm,i⟩=>?_) (eX hs) (by rw[eX f];rfl)));obtain⟨L,M,rfl,j,k⟩:=i.two;obtain⟨N,O,rfl,l,m⟩:=vals2 E;exact z8n ht D l m ((Rep.there _ j).weak (B':=λc=>bI F c/\¬nw d c) λc z=>⟨BG.aH so.aH z.1,z.2⟩) ((Rep.there _ k).weak (B':=λc=>bI F c/\¬nw d c) λc z=>⟨BG.aH so.aH z.1,z.2⟩) B C λJ wk=>q J _ d sm (λc z=>z) wk
theorem QC (ht:(isTup o||isNm o)=Z7)(hm:X.mg "zip"=Z8)(E:Gl X "zip")(hs:isStar a=Z6)(f:isStar b=Z6)(ha:PE X a (tD X.K fa))(hb:PE X b (tD X.K fb)):PI X o (.Call (.Name "zip" p) [a,b] [] pos) (tDF X.K λd=>(fa d>>=λx=>fb d>>=λy=>.ok [x,y])>>=λr=>nZ r d):=by
 rintro g s L H R I ⟨d,F,w,so,e,q⟩
 obtain⟨t,M,e⟩:=Res.aA e;obtain⟨x,y,N,O,rfl⟩:=QB M;have e:(if(pL x&&pL y)=Z7 then(seqR x.2>>=λu=>seqR y.2>>=λt=>Res.ok (G.al,zipD u t,d))else Res.no)=Res.ok w:=e;split at e
 case isFalse=>cases e
 rename_i P;obtain⟨Q,S⟩:=bn.mp P;obtain⟨u,v,e⟩:=Res.aA e;obtain⟨r,A,e⟩:=Res.aA e;cases e;refine Call_ (z2d I E hm IE (PyProof.Rows.callWith_type1 (aI (IF hs f ha hb pos g s L H (λi h=>Same H h/\dY X.K F H h i [x,y]) I ⟨d,F,[x,y],so,by show(fa d>>=λx=>fb d>>=λy=>Res.ok [x,y])=_;rw[N,O];rfl,λi h B j=>⟨B,j⟩⟩) λus B ⟨i,h,T,U,sm,j⟩=>?_) (eX hs) (by rw[eX f];rfl)));obtain⟨v1,v2,rfl,k,l⟩:=j.two;obtain⟨u1,u2,rfl,m,n⟩:=vals2 U;obtain⟨C,V,W,Y⟩:=DH so Q v k;obtain⟨D,Z,m2,m3⟩:=DH so S A l;exact z8n ht T m n (V.weak (B':=λc=>C c\/D c) λc z=>.inl z) (Z.weak (B':=λc=>C c\/D c) λc z=>.inr z) v A λJ wk=>q J _ h F sm Run.refl (cO.same sm) (so.same sm) (λc z=>z.elim (W c) (m2 c)) (λc z=>z.elim (Y c) (m3 c)) wk
theorem Au (hm:X.mg "enumerate"=Z8)(k:Gl X "enumerate")(hs:isStar a=Z6)(l:PE X a (tD X.K fa)):PI X (.Tuple h x1 tp) (.Call (.Name "enumerate" p) [a] [] pos) (tDW X.K λf=>fa f>>=λx=>seqR x.2>>=λi=>.ok (.al,z22 0 i)):=by
 rintro b s m H R I ⟨f,F,w,so,e,q⟩
 obtain⟨x,n,e⟩:=Res.aA e;obtain⟨i,o,e⟩:=Res.aA e;cases e;refine Call_ (z2d I k hm DF (PyProof.Rows.callWith_type1 (aI (DG hs l pos b s m H (λg d=>Same H d/\dY X.K F H d g [x]) I ⟨f,F,[x],so,by show(fa f>>=λx=>Res.ok [x])=_;rw[n];rfl,λg d j rs=>⟨j,rs⟩⟩) λC j ⟨g,d,r,t,sm,rs⟩=>?_) (eX hs) rfl));obtain⟨v,rfl,y⟩:=rs.one;obtain⟨u,rfl,A⟩:=vals1 t;exact z3x r A (Rep.there _ y) o λJ B=>q J _ d sm (λc z=>⟨BG.aH so.aH z.1,z.2⟩) B
theorem QD (hm:X.mg "enumerate"=Z8)(l:Gl X "enumerate")(hs:isStar a=Z6)(m:PE X a (tD X.K fa)):PI X (.Tuple g M tp) (.Call (.Name "enumerate" p) [a] [] pos) (tDF X.K λb=>(fa b>>=λx=>.ok [x])>>=λh=>nY h b):=by
 rintro c s n H R I ⟨b,F,w,so,e,q⟩
 obtain⟨h,o,e⟩:=Res.aA e;obtain⟨x,r,rfl⟩:=As o;have e:(if pL x=Z7 then(seqR x.2>>=λi=>Res.ok (G.al,z22 0 i,b))else Res.no)=Res.ok w:=e;split at e
 case isFalse=>cases e
 rename_i hc;obtain⟨i,j,e⟩:=Res.aA e;cases e;refine Call_ (z2d I l hm DF (PyProof.Rows.callWith_type1 (aI (DG hs m pos c s n H (λf d=>Same H d/\dY X.K F H d f [x]) I ⟨b,F,[x],so,by show(fa b>>=λx=>Res.ok [x])=_;rw[r];rfl,λf d k rs=>⟨k,rs⟩⟩) λN k ⟨f,d,t,y,sm,rs⟩=>?_) (eX hs) rfl));obtain⟨v,rfl,z⟩:=rs.one;obtain⟨u,rfl,A⟩:=vals1 y;obtain⟨B,C,D,E⟩:=DH so hc j z;exact z3x t A C j λJ L=>q J B d F sm Run.refl (cO.same sm) (so.same sm) D E L
theorem QE (h:PA X es (tDA X.K fs))(hb:PE X b (tD X.K fb))(hl:∀f u,fs f=.ok u->u.length<=bh):PE X (.BinOp (.List es lp) .Mult b pos) (tD X.K λf=>fs f>>=λc=>fb f>>=λn=>nU c n.2):=by
 refine PE.imp (B6 NY (B8 h) hb) λS H Q C=>?_;obtain⟨f,F,z,so,e,q⟩:=C;obtain⟨c,w,e⟩:=Res.aA e;obtain⟨n,D,e⟩:=Res.aA e;refine⟨f,F,c,so,w,λj T E I=>?_⟩;have r:=I.jW λx hx a h=>uM so.aH hx h;refine⟨by rw[r.length,ae];exact hl f c w,λp y=>?_⟩;have sm:=E.trans (Same.upd (o:=.lst j) y);refine⟨f,F,n,so.same sm,D,λv J l rv=>?_⟩;obtain⟨g,d⟩:=n;cases d<;>try (exact(fA e).elim)
 rename_i k;have e:(if imms (c.map (·.2))=Z7/\0<=k/\k<=aZ/\c.length*k.toNat<=aZ then Res.ok (G.fr,ZW (xO k.toNat (c.map (·.2))))else Res.no)=Res.ok z:=e;split at e
 case isFalse=>cases e
 rename_i L;obtain⟨M,h0,A,N⟩:=L;cases e;obtain rfl:v=.int k:=rv;have s:j.length=c.length:=by rw[r.length,ae]
 refine⟨p,k,j,rfl,rfl,l _ _ aT,by unfold aZ at A;omega,by unfold aZ at A;omega,jX (s▸N),λB i=>?_⟩;refine q _ _ ((sm.trans l).trans (Same.upd i)) ?_
 have O:aD X.K J (BG F H .fr) (xO k.toNat j) (xO k.toNat (c.map (·.2))):=by
  unfold xO;generalize k.toNat=m
  induction m with
  |zero=>exact rfl
  |succ m P=>rw[pd];exact aD.append (aD.bD _ M (r.same ((Same.upd y).trans l) λ_ z=>z)) P
 have t:H B=none:=by
  cases R:H B with
  |none=>rfl
  |some o=>have:=(sm.trans l) _ _ R;rw[i]at this;cases this
 exact rU i O (λ_ z=>z) t
end
abbrev oQ:List Value:=[.type "ValueError",.type "Exception",.type "BaseException",.type "object"]
abbrev exV (K:Z5)(C:Addr):Bool:=W.excIn K C oQ "ValueError.__new__"
def fI (K:Z5)(C:Addr):Bool:=match K.lookup C with
 |some ⟨.type "type",_,.cls cd,sl⟩=>(match cd.mro,sl.toList with
  |.ref D::bm,[_,_,_,_,Z9 (.builtin n),_]=>(D==C)&&(n=="ValueError.__new__")&& !cd.hasDel&&W.tailIn K oQ bm&&W.nsOkIn K cd.ns
  |_,_=>Z6)
 |_=>Z6
def XC (C:Addr)(h:Heap)(bm:List Value):Prop:=∃N nm q bs hdct sn sub ab col dd k0 k1 k2 k3 k5 mN,h.get? C=Z9 (qi nm q C N bs bm hdct sn sub ab col dd k0 k1 k2 k3 k5 "ValueError.__new__")/\h.Ns N mN/\uh h oQ bm
def DJ (C:Addr)(h:Heap)(bm:List Value):Prop:=∃N nm q bs hdct sn sub ab col dd k0 k1 k2 k3 k5 mN,h.get? C=Z9 (qi nm q C N bs bm hdct sn sub ab col dd k0 k1 k2 k3 k5 "ValueError.__new__")/\h.Ns N mN/\mN "__init__"=Z8/\uh h oQ bm
theorem yA:(a&&b)=Z7->a=Z7/\b=true:=bn.mp
theorem Aw {K:Z5}{C:Addr}(q:exV K C=Z7):fI K C=Z7/\∀a cd sl,K.lookup C=Z9 ⟨.type "type",a,.cls cd,sl⟩->Z1 K cd.ns "__init__"=Z9 none:=by
 unfold exV W.excIn at q;unfold fI;split at q
 .rename_i a cd sl b;split at q
  .rename_i A bm h i j k n l hm hs;obtain⟨q,c⟩:=yA q;refine⟨?_,λd f g e=>by rw[b]at e;cases e;exact yh c⟩;simp only[b,hm,hs];exact q
  .cases q
 .cases q
theorem uS {K:Z5}{C:Addr}(q:fI K C=Z7):∃a cd bm h i j k l,K.lookup C=Z9 ⟨.type "type",a,.cls cd,#[h,i,j,k,Z9 (.builtin "ValueError.__new__"),l]⟩/\cd.mro=.ref C::bm/\cd.hasDel=Z6/\W.tailIn K oQ bm=Z7/\W.nsOkIn K cd.ns=true:=by
 unfold fI at q;split at q
 .rename_i a cd sl m;split at q
  .rename_i A bm b c d e n f hm hs;obtain⟨q,o⟩:=yA q;obtain⟨q,p⟩:=yA q;obtain⟨q,g⟩:=yA q;obtain⟨r,s⟩:=yA q;have t:sl=#[b,c,d,e,Z9 (.builtin n),f]:=Array.toList_inj.mp (by rw[hs]);refine⟨a,cd,bm,b,c,d,e,f,?_,?_,?_,p,o⟩
   .rw[m,t,yh s]
   .rw[hm,yh r]
   .cases hd:cd.hasDel with
    |false=>rfl
    |true=>rw[hd]at g;cases g
  .cases q
 .cases q
theorem IG {K:Z5}{C:Addr}(a:K.lookup C=Z9 ⟨.type "type",c,.cls cd,sl⟩)(hm:cd.mro=.ref C::bm)(e:Z0 K (.ref C) v=Z9 b):(ZS C::bm).contains v=b:=by
 have e:W.mroIn K C v=Z9 b:=e;unfold W.mroIn W.clsIn at e;rw[a]at e
 dsimp at e
 rw[hm]at e;exact yc e
theorem XC.mk {K:Z5}{C:Addr}(X:K.In h)(q:fI K C=Z7):∃bm,XC C h bm/\∀v b,Z0 K (.ref C) v=Z9 b->(ZS C::bm).contains v=b:=by
 obtain⟨d,cd,bm,f,g,i,j,k,a,hm,hd,l,m⟩:=uS q;refine⟨bm,⟨cd.ns,cd.name,cd.qualname,cd.bases,cd.hasDict,cd.slotNames,cd.subclasses,cd.abstract,cd.collection,d,f,g,i,j,k,h.nsMap cd.ns,?_,.of_isNs (W.isNs_of_in X m),W.tail_of_in X l⟩,λv b e=>IG a hm e⟩;have c:=X _ _ a;cases cd
 dsimp only at hm hd
 rw[hm,hd]at c;exact c
theorem DJ.mk {K:Z5}{C:Addr}(X:K.In h)(q:exV K C=Z7):∃bm,DJ C h bm:=by
 obtain⟨d,e⟩:=Aw q;obtain⟨f,cd,bm,g,i,j,k,l,a,hm,hd,m,b⟩:=uS d;refine⟨bm,cd.ns,cd.name,cd.qualname,cd.bases,cd.hasDict,cd.slotNames,cd.subclasses,cd.abstract,cd.collection,f,g,i,j,k,l,h.nsMap cd.ns,?_,.of_isNs (W.isNs_of_in X b),W.nsMap_none_of_in X b (e _ _ _ a),W.tail_of_in X m⟩;have c:=X _ _ a;cases cd
 dsimp only at hm hd
 rw[hm,hd]at c;exact c
section
variable {M:Model}{A:d8}{E:Value->aq->Prop}{h:Heap}{g:Array q8}{d:Drawn}{t:Nat}{os:oa}{C B e:Addr}{bm Ax:List Value}{oe:Obj}{Q:Bool->aq->Prop}
theorem IH (T:uh h oQ l):l.contains (.type "BaseException")=true:=T.hasType rfl
theorem QF (i:XC C h bm)(j:XC B h Ax)(k:h.get? e=Z9 oe)(hc:oe.cls=.ref C)(a:(ZS C::bm).contains (.ref B)=Z7)(l:Q Z7 ⟨h,g,d,t,os⟩):wpAny M A (xz (.ref e) (.ref B)) Q E ⟨h,g,d,t,os⟩:=by
 obtain⟨_,_,_,_,_,_,_,_,_,_,_,_,_,_,_,_,m,_,_⟩:=i;obtain⟨_,_,_,_,_,_,_,_,_,_,_,_,_,_,_,_,c,_,tB⟩:=j;have b:(ZS B::Ax).contains (.type "BaseException")=true:=by rw[p6,IH tB,pi]
 have f:=tc_notTuple
 repeat (first|(with_reducible refine cw k ?_;rw[hc])|with_reducible refine cw c ?_|(with_reducible refine ju c ?_;rw[b])|(with_reducible refine ju m ?_;rw[a])|wp_step)
 exact l
end
section
variable {prog:cg}{w:World}{A:d8}{E:Value->aq->Prop}{K:Z5}{h:Heap}{g:Array q8}{d:Drawn}{t:Nat}{os:oa}{C e:Addr}{oe:Obj}
structure XA (K:Z5)(C:Addr):Prop where
 cl:Z4 K (.ref C) "__class__"=Z9 (Z9 (.builtin "object.__class__"))
 ga:Z4 K (.ref C) "__getattribute__"=Z9 (Z9 (.builtin "BaseException.__getattribute__"))
 gt:Z4 K (.ref C) "__getattr__"=Z9 Z8
 ob:Z0 K (.ref C) (.type "object")=Z9 Z7
 be:Z0 K (.ref C) (.type "BaseException")=Z9 Z7
 ty:W.typeIn K (.ref C)=Z9 (.type "type")
 is:(W.clsIn K C).isSome=Z7
 ex:fI K C=Z7
theorem z64 (a:h.get? e=Z9 oe)(hc:oe.cls=.ref C):W.Looks M h (typeOf (.ref e)) (.ref C):=by intro A Q E s k q;refine ac (wpAny_loadPart (k _ _ a) ?_);rw[hc];exact ah q
theorem zt2 (X:K.In h)(a:XA K C)(b:h.get? e=Z9 oe)(hc:oe.cls=.ref C)(c:R (.ok (.ret (.ref C))) ⟨h,g,d,t,os⟩):
  ku (model prog w) A (.call (.builtin "getset_descriptor.__get__") ⟨[.builtin "object.__class__",.ref e,tp],[]⟩) R ⟨h,g,d,t,os⟩:=by
 have f:=z64 (M:=model prog w) b hc;have i:=W.looks_subIn (M:=model prog w) X a.ob;refine jn W.KF.slot_gs.plain W.KF.entry_gs (W.KF.slot_gs.check _ _ _ _ _ _ _ _ W.KF.type_class (W.KF.args_gs _ _ _) (ac (ah ?_)));unfold Builtin.Getset_descriptor.descrGetter Builtin.Getset_descriptor.descrCheckInstance Builtin.Getset_descriptor.descrNameAndClass sr;simp only[W.KF.owner_class]
 repeat lk
 refine⟨Code.quiet_builtin _ (by decide+kernel),?_⟩;refine g7 W.KF.entry_class ?_;unfold Builtin.«object.__class__»;unfold shownTypeOf;repeat lk
 exact c
theorem zkc {f:Tok}{Q:Fin->aq->Prop}(X:K.In h)(a:XA K C)(b:h.get? e=Z9 oe)(c:oe.cls=.ref C)(j:Q (.done (.ret (.ref C))) ⟨h,g,d,t,os⟩):
  wpAny (model prog w) A (Builtin.«object.__getattribute__» ⟨[.ref e,.str "__class__" f],[]⟩) Q E ⟨h,g,d,t,os⟩:=by
 have k:(⟨h,g,d,t,os⟩:aq).TypeIs (.builtin "object.__class__") "getset_descriptor":=F.typeOf_object_class;have⟨f5,f6,f7⟩:=And.intro F.typeOf_object_class (And.intro F.slot_gs_get.lookup F.slot_gs_set.lookup);have i:=ZZ (M:=model prog w) X a.cl
 repeat (any_goals (first|assumption|(with_reducible refine cw b ?_;rw[c])|with_reducible refine i.at ?_|wp_step))
 refine zt2 X a b c ?_
 repeat' first|assumption|wp_step
theorem x_call {b:Tok}{R:x9->aq->Prop}(X:K.In h)(a:XA K C)(c:h.get? e=Z9 oe)(hc:oe.cls=.ref C)(f:R (.ok (.ret (.ref C))) ⟨h,g,d,t,os⟩):
  ku (model prog w) A (.call (.builtin "BaseException.__getattribute__") ⟨[.ref e,.str "__class__" b],[]⟩) R ⟨h,g,d,t,os⟩:=by
 refine jn F.excAttr_ValueError.ga.plain F.entry_bexc_ga ?_;have i:=W.looks_subIn (M:=model prog w) X a.be;have l:=F.args_bexc_ga (.ref e) (.str "__class__" b);have j:xp "BaseException.__getattribute__"=Z9 .slot:=by decide+kernel
 have k:splitId "BaseException.__getattribute__"=Z9 ("BaseException","__getattribute__"):=by decide+kernel
 simp only[nz,j,k];refine ac ?_;unfold sr
 repeat (first|(with_reducible refine zkc X a c hc ?_;exact f)|(with_reducible refine cw c ?_;rw[hc])|with_reducible refine i.at ?_|wp_step)
theorem x_by (X:K.In h)(a:XA K C)(b:h.get? e=Z9 oe)(hc:oe.cls=.ref C)(c:Q (.ref C) ⟨h,g,d,t,os⟩):
  wpAny (model prog w) A (getAttrBy (.ref e) (.str "__class__" f) Z6) Q E ⟨h,g,d,t,os⟩:=by
 have i:=F.excAttr_ValueError.ga.bind (.ref e)
 repeat (any_goals (first|assumption|(with_reducible refine cw b ?_;rw[hc])|with_reducible refine(ZZ (M:=model prog w) X a.ga).at ?_|with_reducible refine(ZZ (M:=model prog w) X a.gt).at ?_|wp_step))
 refine x_call X a b hc ?_
 repeat' first|assumption|wp_step
theorem QG (X:K.In h)(a:XA K C)(b:h.get? e=Z9 oe)(hc:oe.cls=.ref C)(c:Q (Z9 (.ref C)) ⟨h,g,d,t+1,os⟩):wpAny (model prog w) A (ww (.ref e) "__class__") Q E ⟨h,g,d,t,os⟩:=by repeat (any_goals (first|assumption|with_reducible apply x_by X a b hc|wp_step))
theorem QH (q:fI K C=Z7)(e:Z0 K (.ref C) (.ref C)=Z9 b):b=true:=by obtain⟨c,cd,bm,d,f,g,h,i,a,hm,_⟩:=uS q;rw[<-IG a hm e,p6,beq_self_eq_true,we]
structure XV (K:Z5)(v:Value):Prop where
 ty:∀(M:Model) (h:Heap),K.In h->W.Looks M h (typeOf v) (.type "type")
 is:∀(M:Model) (h:Heap),K.In h->W.Looks M h (isType v) Z7
theorem II {D:Addr}(X:K.In h)(q:(W.clsIn K D).isSome=Z7):W.Looks M h (isType (.ref D)) true:=by
 unfold W.clsIn at q;split at q
 .rename_i a;intro A Q E s k z;refine ac (vj (k _ _ (X _ _ a)) ?_);exact ah z
 .cases q
theorem XV.own {D:Addr}(t:W.typeIn K (.ref D)=Z9 (.type "type"))(q:(W.clsIn K D).isSome=Z7):XV K (.ref D):=⟨λM h X=>W.looks_typeIn X t,λM h X=>II X q⟩
theorem XV.val:XV K (.type "ValueError"):=⟨λM h X=>W.Looks.of_pure (by kernel_rfl),λM h X=>W.Looks.of_pure rfl⟩
theorem zuu (X:K.In h)(a:XA K C)(c:h.get? e=Z9 oe)(hc:oe.cls=.ref C)(f:XV K v)(hs:Z0 K (.ref C) v=Z9 b)(i:Q (.done (.ret (.bool b))) ⟨h,g,d,t,os⟩)(l:Q (.done (.ret (.bool b))) ⟨h,g,d,t+1,os⟩):
  wpAny (model prog w) A (Builtin.«isinstance.nested» ⟨[.ref e,v,.int m o],[]⟩) Q E ⟨h,g,d,t,os⟩:=by
 have j:=z64 (M:=model prog w) c hc;have k:=W.looks_subIn (M:=model prog w) X hs;unfold Builtin.«isinstance.nested»;refine ac (j.at ?_);by_cases q:(ZS C==v)=true
 .rw[ya q];have n:b=true:=by cases yh q;exact QH a.ex hs
  subst n;exact ac (jr (ac (ah (ah i))))
 .rw[yb q];refine ac ((f.ty (model prog w) h X).at ?_)
  k_delta "plainIsInstance"
  refine ac (ac ((f.is (model prog w) h X).at ?_));refine ac ((j.andThen k).at ?_);cases b with
  |true=>exact ah (ah i)
  |false=>refine ac (QG X a c hc ?_);refine ac ((II (M:=model prog w) X a.is).at ?_);refine ac (jr ?_);exact k.at (ah l)
theorem zth (X:K.In s.heap)(a:XA K C)(i:s.heap.get? e=Z9 oe)(hc:oe.cls=.ref C)(j:XV K v)(hs:Z0 K (.ref C) v=Z9 b)(k:∀f,Q (.bool b) {s with toks:=f}):
  wpAny (model prog w) A (call (.builtin "isinstance") [.ref e,v]) Q E s:=
 call_isinstance (S:=λ_ R s=>(K.In s.heap/\s.heap.get? e=Z9 oe)/\∀f,R (.ok (.ret (.bool b))) {s with toks:=f}) (λ_ _ _ _ s c=>isinstance_outer (by obtain⟨h,g,d,t,os⟩:=s;exact zuu c.1.1 a c.1.2 hc j hs (c.2 t) (c.2 (t+1))) nofun) ⟨⟨X,i⟩,k⟩
end
theorem QI (f:Array Value->Array Value)(o:Obj):(Obj.mapFields f o).dict=o.dict:=by unfold Obj.mapFields;split<;>rfl
def TrD (h base:Heap)(e:Addr)(cls:Value)(dd:Option Addr)(fl:Value):Prop:=∃ob vs T tr ts,h.get? e=Z9 ob/\ob.cls=cls/\ob.dict=dd/\ob.data=.fields vs/\vs[1]?=Z9 (.ref T)/\base.get? T=Z8/\T≠e/\h.get? T=Z9 tr/\tr.data=.fields ts/\ts[3]?=Z9 fl
def FlD (base:Heap)(l:List Env)(e:Addr)(cls:Value)(dd:Option Addr)(h:Heap):Prop:=base.StaysIn h/\base.get? e=Z8/\h.FunFrames base l/\TrD h base e cls dd .none
def IJ (base:Heap)(l:List Env)(e:Addr)(cls:Value)(dd:Option Addr)(L:Addr)(h:Heap):Prop:=base.StaysIn h/\base.get? e=Z8/\h.FunFrames base l/\TrD h base e cls dd (gc L)
theorem FlD.first (x:FlD base l e cls b h):∃ob a,h.get? e=Z9 ob/\ob.cls=cls/\ob.dict=b/\ob.data=.fields a:=by obtain⟨_,_,_,ob,a,_,_,_,c,d,f,g,_⟩:=x;exact⟨ob,a,c,d,f,g⟩
section
variable {M:Model}{A:d8}{E:Value->aq->Prop}{s:aq}{base:Heap}{env:Env}{outer l:List Env}{L e:Addr}{Q:Unit->aq->Prop}{cls:Value}{dd:Option Addr}
theorem z97 (fr:A.frames=Z9 (env::outer))(ff:s.heap.FunFrames base (env::outer))(el:env.frame=Z9 L)(p:s.heap.get? e=Z9 ob)(st:base.StaysIn s.heap)(be:base.get? e=Z8)(da:ob.data=.fields f)(sz:1<f.size)
  (go:∀h,base.StaysIn h->h.FunFrames base (env::outer)->TrD h base e ob.cls ob.dict (gc L)->s.heap.UpToSlots h->Q () {s with heap:=h}):
  wpAny M A (do
   let a <-frameOf env
   let pl <-entryPlaceOf L hn
   let b <-EntryCells.newEntry head a .none (gc L) .none pl
   setField (.ref e) 1 b) Q E s:=by
 have r:e∉(env::outer).filterMap (·.frame):=λz=>by obtain⟨_,o,q,n⟩:=ff.mem z;rw[p]at q;cases q;exact n f da
 refine ac (wpAny_frameOf_fun fr ff el λd m=>ac (wpAny_entryPlaceOf λpl t=>?_));refine ac (gr ?_ (t.sizeOk5 _ _ _ _ _));have i:d.get? e=Z9 ob:=m.2.1 e r▸p;have j:base.StaysIn d:=λb o q=>by rw[m.2.1 b λz=>by rw[(ff.mem z).1]at q;cases q];exact st b o q
 generalize u:({cls:=.type "traceback",dict:=Z8,data:=.fields ([head,.ref L,.none,gc L,.none]++(if pl.isEmpty then bo 6 Value.none else pl)).toArray}:Obj)=k;have l:=af k i;have w:d.objs.size≠e:=λz=>absurd (bj i) (z▸dk _);refine mw l da sz (go _ ?_ ?_ ?_ ?_)
 all_goals generalize y:(λv:Array Value=>v.setIfInBounds 1 (ZS d.objs.size))=g
 all_goals
  have x:=Obj.data_mapFields da g;have B:((d.push k).update e (Obj.mapFields g)).get? d.objs.size=Z9 k:=by rw[gu _ _ (Ne.symm w)];exact ax d (by rw[<-u];rfl)
  have keep:∀b o,b≠e->d.get? b=Z9 o->((d.push k).update e (Obj.mapFields g)).get? b=Z9 o:=λb o n q=>by rw[gu _ _ (Ne.symm n)];exact af _ q
  have c:∀b o,s.heap.get? b=Z9 o->(∀f,o.data≠.fields f)->b≠e:=λb o q n z=>by rw[z,p]at q;cases q;exact n f da
 .exact λb o q=>keep b o (λz=>by rw[z,be]at q;cases q) (j b o q)
 .refine ff.of_keeps λb o q n=>?_;obtain⟨sl,z⟩:=m.2.2 b o q;exact⟨_,keep b _ (c b o q n) z,rfl⟩
 .refine⟨_,_,d.objs.size,k,_,e8 (Obj.mapFields g) l (Obj.isFreed_of_fields x),Obj.cls_mapFields _ _,QI _ _,x,?_,j.fresh,w,B,by rw[<-u],?_⟩
  .rw[<-y];simp[sz]
  .first|(simp;done)|(rcases t with rfl|⟨_,_,_,_,_,_,_,rfl⟩<;>simp)
 .exact λb o q n=>by obtain⟨sl,z⟩:=m.2.2 b o q;exact⟨sl,keep b _ (c b o q n) z⟩
theorem zen (fr:A.frames=Z9 (env::outer))(ff:s.heap.FunFrames base (env::outer))(el:env.frame=Z9 L)(b:s.heap.get? e=Z9 ob)(st:base.StaysIn s.heap)(be:base.get? e=Z8)(da:ob.data=.fields d)(c:d[1]?=Z9 .none)
  (go:∀a,base.StaysIn a->a.FunFrames base (env::outer)->TrD a base e ob.cls ob.dict (gc L)->s.heap.UpToSlots a->Q () {s with heap:=a}):wpAny M A (j4 (.ref e) env) Q E s:=by
 unfold j4;simp only[el];refine ac (eh b da c ?_);exact z97 fr ff el b st be da (dq.mp c).1 go
theorem zma (fr:A.frames=Z9 (env::outer))(ff:s.heap.FunFrames base (env::outer))(el:env.frame=Z9 L)(l:TrD s.heap base e cls dd .none)(st:base.StaysIn s.heap)(be:base.get? e=Z8)
  (go:∀d,base.StaysIn d->d.FunFrames base (env::outer)->TrD d base e cls dd (gc L)->s.heap.UpToSlots d->Q () {s with heap:=d}):wpAny M A (j4 (.ref e) env) Q E s:=by
 obtain⟨ob,h,T,y,m,i,rfl,rfl,da,j,p,r,f,dT,k⟩:=l;unfold j4;simp only[el];refine ac (eh i da j ?_);refine ac (eh f dT k ?_);refine ac (mw f dT (dq.mp k).1 ?_);generalize B:(λv:Array Value=>v.setIfInBounds 3 Value.none)=g;have c:∀b,b≠T->(s.heap.update T (Obj.mapFields g)).get? b=s.heap.get? b:=λb n=>gu _ _ (Ne.symm n);have a:∀b o,s.heap.get? b=Z9 o->(∀h,o.data≠.fields h)->b≠T:=λb o q n z=>by rw[z,f]at q;cases q;exact n m dT
 refine z97 fr (ff.of_keeps λb o q n=>⟨o,by rw[<-q];exact c b (a b o q n),rfl⟩) el ((c e (Ne.symm r)).trans i) (λb o q=>(c b λz=>by rw[z,p]at q;cases q).trans (st b o q)) be da (dq.mp j).1 λd t u w x=>go d t u w λb o q n=>x b o ((c b (a b o q n)).trans q) n
theorem zdw (st:base.StaysIn s.heap)(ff:s.heap.FunFrames base l)(r:TrD s.heap base e cls dd fl)
  (go:∀d,base.StaysIn d->d.FunFrames base l->TrD d base e cls dd .none->s.heap.UpToSlots d->Q () {s with heap:=d}):wpAny M A (ma (.ref e) Z8) Q E s:=by
 obtain⟨ob,h,T,x,t,j,hc,hd,da,k,m,p,i,dT,u⟩:=r;have sz:=(dq.mp u).1;refine ac (eh j da k ?_);refine mw i dT sz ?_;generalize w:(λv:Array Value=>v.setIfInBounds 3 ((Z8:Option Addr).elim Value.none λf=>gc f))=g;have c:∀b,b≠T->(s.heap.update T (Obj.mapFields g)).get? b=s.heap.get? b:=λb n=>gu _ _ (Ne.symm n);have a:∀b o,s.heap.get? b=Z9 o->(∀h,o.data≠.fields h)->b≠T:=λb o q n z=>by rw[z,i]at q;cases q;exact n t dT
 refine go _ (λb o q=>(c b λz=>by rw[z,m]at q;cases q).trans (st b o q)) (ff.of_keeps λb o q n=>⟨o,(c b (a b o q n)).trans q,rfl⟩) ⟨ob,h,T,_,_,(c e (Ne.symm p)).trans j,hc,hd,da,k,m,p,e8 _ i (Obj.isFreed_of_fields (Obj.data_mapFields dT _)),Obj.data_mapFields dT _,by rw[<-w];simp[sz]⟩ λb o q n=>⟨o.slots,(c b (a b o q n)).trans q⟩
theorem z7y (fr:A.frames=Z9 (env::outer))(el:env.frame=Z9 L)(fl:FlD base (env::outer) e cls dd s.heap)
  (go:∀a,IJ base (env::outer) e cls dd L a->s.heap.UpToSlots a->Q () {s with heap:=a}):wpAny M A (j4 (.ref e) env) Q E s:=by
 obtain⟨c,b,d,f⟩:=fl;exact zma fr d el f c b λa g h i j=>go a ⟨g,b,h,i⟩ j
theorem IK (x:IJ base l e cls dd L s.heap)(go:∀a,FlD base l e cls dd a->s.heap.UpToSlots a->Q () {s with heap:=a}):wpAny M A (ma (.ref e) Z8) Q E s:=by obtain⟨b,c,d,f⟩:=x;exact zdw b d f λa g h i j=>go a ⟨g,c,h,i⟩ j
theorem QJ (x:FlD base l e cls dd s.heap)(go:∀a,FlD base l e cls dd a->s.heap.UpToSlots a->Q () {s with heap:=a}):wpAny M A (ma (.ref e) Z8) Q E s:=by obtain⟨b,c,d,f⟩:=x;exact zdw b d f λa g h i j=>go a ⟨g,c,h,i⟩ j
theorem zgk (fr:A.frames=Z9 (env::outer))(el:env.frame=Z9 L)(fl:FlD base (env::outer) e cls dd s.heap)
  (go:∀a,FlD base outer e cls dd a->s.heap.UpToSlots a->Q () {s with heap:=a}):wpAny M A (xq env (.ref e)) Q E s:=by
 refine ac (z7y fr el fl λl b c=>IK b λd f g=>?_);obtain⟨h,i,⟨_,_,j⟩,k⟩:=f;exact go d ⟨h,i,j,k⟩ (c.trans g)
theorem zd5 (fr:A.frames=Z9 (env::outer))(ff:s.heap.FunFrames base (env::outer))(el:env.frame=Z9 L)(b:s.heap.get? e=Z9 ob)(st:base.StaysIn s.heap)(be:base.get? e=Z8)(da:ob.data=.fields c)(d:c[1]?=Z9 .none)
  (go:∀a,FlD base outer e ob.cls ob.dict a->s.heap.UpToSlots a->Q () {s with heap:=a}):wpAny M A (xq env (.ref e)) Q E s:=by
 refine ac (zen fr ff el b st be da d λp f g h i=>zdw f g h λj k l m n=>?_);obtain⟨_,_,o⟩:=l;exact go j ⟨k,be,o,m⟩ (i.trans n)
end
structure Fly (P:cg)(w:World)(base:Heap)(outer:List Env)(H:Hp)(s:aq)(C a:Addr)(H':Hp)(s':aq)(dd:Option Addr):Prop where
 os:s'.os=s.os
 bare:ph s'.gens
 cG:∀b xs,H b=Z9 (.tup xs)->H' b=Z9 (.tup xs)
 cA:∀b o u,H b=Z9 (.fN o u)->H' b=Z9 (.fN o u)
 cH:∀b ps,H b=Z9 (.mE ps)->∃more,H' b=Z9 (.mE (ps++more))
 free:∀b o,s.heap.get? b=Z9 o->H b=Z8->H' b=Z8
 hh:∃B,base.StaysIn B/\HOk P w H' B/\(∀b o,s.heap.get? b=Z9 o->b∉frs outer->∃o',B.get? b=Z9 o'/\(H b=Z8->o'=o))/\FlD B outer a (.ref C) dd s'.heap
 slot:∀b o,s.heap.get? b=Z9 o->H b=Z8->b∈frs outer->∃sl,s'.heap.get? b=Z9 {o with slots:=sl}
def CXE (P:cg)(w:World)(base:Heap):CXT:=λouter H s E e s'=>∃a C dd H',e=.ref a/\Fly P w base outer H s C a H' s' dd/\E (.ref C) dd H'
theorem IL (x:z1b P w H h a o):∃ob,h.get? a=Z9 ob:=by
 cases o with
 |lst c=>obtain⟨_,_,_,_,e⟩:=x;exact⟨_,e⟩
 |tup c=>obtain⟨_,_,_,_,e⟩:=x;exact⟨_,e⟩
 |dK b=>obtain⟨_,_,_,_,o,_,_,e,_⟩:=x;exact⟨_,e⟩
 |dT b=>obtain⟨_,_,_,_,o,_,_,e,_⟩:=x;exact⟨_,e⟩
 |set S n=>obtain⟨o,_,_,_,e,_⟩:=x;exact⟨_,e⟩
 |ins C d fs=>obtain⟨_,_,_,e,_⟩:=x;exact⟨_,e⟩
 |own y=>exact x
 |xd fs=>obtain⟨_,⟨_,_,_,e,_⟩,_⟩:=x;exact⟨_,e⟩
 |fN ob u=>exact⟨_,x.1⟩
 |mE ps=>exact⟨_,x⟩
 |ext f=>exact x.2.1
section
variable {P:cg}{w:World}{base:Heap}{outer:List Env}{H H':Hp}{s s':aq}{C a:Addr}{dd:Option Addr}
theorem Fly.hok (f:Fly P w base outer H s C a H' s' dd):HOk P w H' s'.heap:=by obtain⟨B,_,b,_,fl⟩:=f.hh;exact b.kept fl.1
theorem Fly.un (f:Fly P w base outer H s C a H' s' dd):Un (frs outer) [] H H' s.heap s'.heap:=by
 obtain⟨B,_,l,d,fl⟩:=f.hh;refine⟨λb o e n c _=>?_,λb o e n c _=>f.slot b o e n c,λb o e n _=>f.free b o e n,λb o e _=>?_,f.cG,f.cA,f.cH⟩
 .obtain⟨h,g,i⟩:=d b o e c;rw[i n]at g;exact fl.1 b o g
 .by_cases c:b∈frs outer
  .obtain⟨_,j,k,_⟩:=fl.2.2.1.mem c;exact⟨j,k⟩
  .obtain⟨h,g,_⟩:=d b o e c;exact⟨h,fl.1 b h g⟩
end
section
variable {X:Cx}{pins:List (Addr×Obj)}{σ:L2.St}{H H':Hp}{s s':aq}{C a:Addr}{dd:Option Addr}
theorem Fly.inv (f:Fly X.prog X.w X.base X.stack H s C a H' s' dd)(I:Inv X pins σ H s):Inv X pins σ H' s':=by obtain⟨c,g,d,t,o⟩:=s';obtain rfl:o=s.os:=f.os;exact I.call f.un f.hok f.bare λb z=>nomatch z
theorem Fly.leave {M:Model}{outer:List Env}{Q:Unit->aq->Prop}{E:Value->aq->Prop}(f:Fly X.prog X.w X.base X.stack H s C a H' s' dd)(I:Inv X pins σ H s)(hs:X.stack=X.env::X.outer)(hf:X.env.frame=Z9 X.env.locals)(hx:X.ex=[])
  (hQ:∀rA,Fly X.prog X.w X.base X.outer X.gE X.s₀ C a H' rA dd->Q () rA):wpAny M X.A (xq X.env (.ref a)) Q E s':=by
 obtain⟨B,hb,hB,yB,fl⟩:=f.hh;rw[hs]at fl;have QK:X.A.frames=Z9 (X.env::X.outer):=by rw[<-hs];exact I.ok.frames
 have u0:=I.base
 have DK:∀b o,X.s₀.heap.get? b=Z9 o->b∉frs X.outer->b∉frs X.stack:=λb o e hn z=>by
  rw[hs]at z;unfold frs at z hn;rw[dr,hf]at z;rcases au.mp z with z|z
  .exact absurd (bj e) (by rw[z];exact Nat.not_lt.mpr I.ok.above)
  .exact hn z
 have slot:∀h',s'.heap.UpToSlots h'->∀b o,X.s₀.heap.get? b=Z9 o->X.gE b=Z8->b∈frs X.outer->∃sl,h'.get? b=Z9 {o with slots:=sl}:=λh' up b o e n hn=>by
  have nx:b∉X.ex:=by rw[hx];simp
  obtain⟨sl,e1⟩:=I.base.slot b o e n hn nx;have QL:b∈frs X.stack:=by rw[hs];unfold frs;rw[dr,hf];exact ay _ hn
  obtain⟨Ay,e2⟩:=f.slot b _ e1 (I.base.free b o e n nx) QL;obtain⟨_,o3,e3,nd⟩:=I.ok.bV.mem hn;rw[e]at e3;cases e3;obtain⟨DL,e4⟩:=up b _ e2 nd;exact⟨DL,e4⟩
 refine zgk QK hf fl λh' QM up=>hQ _ ⟨f.os.trans I.os,f.bare,λb xs e=>f.cG b xs (u0.cG b xs e),λb o u e=>f.cA b o u (u0.cA b o u e),λb ps e=>?_,λb o e n=>?_,⟨B,hb,hB,λb o e hn=>?_,QM⟩,slot h' up⟩
 .obtain⟨m1,e1⟩:=u0.cH b ps e;obtain⟨m2,e2⟩:=f.cH b _ e1;exact⟨m1++m2,by rw[e2,vg]⟩
 .have nx:b∉X.ex:=by rw[hx];simp
  obtain⟨o',e'⟩:=I.base.there b o e nx;exact f.free b o' e' (I.base.free b o e n nx)
 .have nx:b∉X.ex:=by rw[hx];simp
  obtain⟨o1,e1⟩:=I.base.there b o e nx;obtain⟨o2,e2,e3⟩:=yB b o1 e1 (DK b o e hn);refine⟨o2,e2,λn=>?_⟩;rw[e3 (I.base.free b o e n nx)];have:=I.base.keep b o e n hn nx;rw[this]at e1;cases e1;rfl
theorem QN (x:HOk P w H h)(n:∀b∈l,H b=Z8):HOk P w H (W.hideAll h l):=λb o e=>by
 refine(x b o e).stay (λc u hc q=>W.hideAll_get _ q λz=>?_) (λ_ q=>q) λ_ _ q=>q;rcases hc with rfl|hc
 .rw[n c z]at e;cases e
 .rw[n c z]at hc;cases hc
theorem zeh (I:Inv X pins σ H s)(h0:X.s₀.heap.get? a=Z8)(l:H a=Z8)(m:s.heap.get? a=Z9 ob)(hc:ob.cls=.ref C)(da:ob.data=.fields p)(r:p[1]?=Z9 .none)(hs:X.stack=X.env::X.outer)(hf:X.env.frame=Z9 X.env.locals)(t:X.ex=[])
  (u:∀f,Fly X.prog X.w X.base X.outer X.gE X.s₀ C a H f ob.dict->Q () f):wpAny M X.A (xq X.env (.ref a)) Q E s:=by
 have nx:∀b,b∉X.ex:=λb=>by rw[t];simp
 have g:=I.stack;rw[hs]at g
 have d:∀b∈a::frs (X.env::X.outer),H b=none:=λb h=>by
  rcases au.mp h with rfl|h
  .exact l
  .exact I.fR b (hs▸h)
 have c:∀b o,X.s₀.heap.get? b=Z9 o->b∉frs X.outer->b∉a::frs (X.env::X.outer):=λb o e hn z=>by
  rcases au.mp z with rfl|z
  .rw[h0]at e;cases e
  unfold frs at z hn;rw[dr,hf]at z;rcases au.mp z with z|z
  .exact absurd (bj e) (z▸Nat.not_lt.mpr I.ok.above)
  .exact hn z
 refine zd5 (base:=W.hideAll s.heap (a::frs (X.env::X.outer))) (hs▸I.ok.frames) (W.funFrames_hide g (λenv v b h=>ay _ (jz.mpr ⟨env,v,h⟩))) hf m (λb o q=>W.of_hideAll _ q) (W.hideAll_none _ bb) da r λB fl up=>u _ ⟨I.os,I.bare,I.base.cG,I.base.cA,I.base.cH,λb o e n=>I.base.free b o e n (nx b),⟨_,λb o e=>W.hideAll_get _ (I.bk b o e) (c b o (I.ok.bs b o e).1 (I.ok.vZ e)),QN I.hok d,λb o e hn=>?_,by rw[hc]at fl;exact fl⟩,λb o e n hn=>?_⟩
 .obtain⟨x,i⟩:=I.base.there b o e (nx b);refine⟨x,W.hideAll_get _ i (c b o e hn),λn=>?_⟩;rw[I.base.keep b o e n hn (nx b)]at i;cases i;rfl
 obtain⟨sl,i⟩:=I.base.slot b o e n hn (nx b);obtain⟨_,D,k,nd⟩:=I.ok.bV.mem hn;rw[e]at k;cases k;obtain⟨j,y⟩:=up b _ i nd;exact⟨j,y⟩
end
def IM (K:Z5)(mg:Str->Option Value)(n:Nat)(m:Fn):Sp:=λvs H _ E=>∃A ds c,vs.length=n/\aD K H A vs ds/\excOf (m ds)=Z9 c/\∀C H',mg c=Z9 (.ref C)->Same H H'->E (.ref C) Z8 H'
def lN (P:cg)(w:World)(K:Z5)(mg:Str->Option Value)(base:Heap)(k:Nat)(x:Str)(ps:List Str)(n:Nat)(m:Fn):Prop:=∃f fd,FnOk P w K mg base (CXE P w base) k f fd ps (IM K mg n m)/\mg x=Z9 (.ref f)/\Z3 K (.ref f)=Z7/\Binds K fd ps []
def iQ (X:Cx)(i:Nat)(n:Str)(a:Addr)(oe:Obj):Cx:={X with A:=X.A.mark (Z9 (.ref a)),N:=X.N.set i "",calm:=Z6,pn:=(a,oe)::X.pn,xe:=λ_ _=>False,fx:=[(n,.ref a)]}
section
variable {X:Cx}{pins:List (Addr×Obj)}{σ:L2.St}{H:Hp}{s:aq}{i:Nat}{n:Str}{a:Addr}{oe:Obj}
theorem QO (ok:X.Ok)(nd:X.N.Nodup)(b:X.N[i]?=Z9 n)(c:X.env.scope.names.lookup ("":Str)=Z8)(hl:X.env.scope.names.lookup n=Z9 .local):(iQ X i n a oe).Ok:=by refine⟨ok.mod,ok.kind,ok.glob,ok.blt,ok.above,ok.inj,ok.has,ok.mX,λz=>(by cases z),ok.frames,ok.pJ,ok.gA,ok.bs,ok.iG,ok.fO,ok.fP,ok.bV,ok.kU,λx u z=>?_⟩;cases ag.mp z;exact .inl hl
theorem zq4 (I:Inv X pins σ H s)(nd:X.N.Nodup)(f:X.N[i]?=Z9 n)(k:X.env.scope.names.lookup ("":Str)=Z8)(hl:X.env.scope.names.lookup n=Z9 .local)(g:σ[i]?=Z9 (Z9 (.ref a)))
  (ho:s.heap.get? a=Z9 oe) (l:H a=Z8) (o:a≠X.env.locals) (r:a∉X.fs) (t:∀v,oe.data≠.cell v):Inv (iQ X i n a oe) pins (σ.set i Z8) H s:=by
 obtain⟨m,hn,b⟩:=I.loc;refine⟨QO I.ok nd f k hl,I.os,I.bare,I.base,⟨m,hn,λj x v c d w=>?_⟩,I.cell,I.free,I.freeC,λp h=>?_,I.hok,?_,λx u z=>?_⟩
 .have c:(X.N.set i "")[j]?=Z9 x:=c;by_cases e:i=j
  .subst e;rw[dm (I.len▸(ba.mp f).1)]at d;cases d
  .rw[df e]at c d;exact b j x v c d w
 .rcases au.mp h with rfl|h
  .exact⟨ho,l,o,r,t⟩
  .exact I.pin p h
 .show(σ.set i Z8).length=(X.N.set i "").length;rw[du,du];exact I.len
 .have z:(x,u)∈ [(n,ZS a)]:=z;cases ag.mp z;obtain⟨u,rfl,q⟩:=b i n (.ref a) f g (.inl hl);exact⟨m,hn,q⟩
theorem QP (ok:X.Ok)(h:X.fx=[])(k:X.N[i]?=Z9 n)(I:Inv (iQ X i n a oe) c g H s):Inv X c (g.set i Z8) H s:=by
 obtain⟨m,hn,f⟩:=I.loc;have b:g.length=(X.N.set i "").length:=I.len;rw[du]at b;refine⟨ok,I.os,I.bare,I.base,⟨m,hn,λj x v l d o=>?_⟩,I.cell,I.free,I.freeC,λp q=>I.pin p (ay _ q),I.hok,by rw[du];exact b,λx u z=>by rw[h]at z;cases z⟩;by_cases e:i=j
 .subst e;rw[dm (b▸(ba.mp k).1)]at d;cases d
 .rw[df e]at d;exact f j x v (show(X.N.set i "")[j]?=Z9 x by rw[df e];exact l) d o
theorem znh (I:Inv X f σ H s)(a:X.fx=[])(nd:X.N.Nodup)(t:X.N[i]?=Z9 n)(B:X.env.scope.names.lookup n=Z9 .local)(C:σ[i]?=Z9 (Z9 v))
  (h:∀K,Inv X f (σ.set i Z8) H K->Q () K):wpAny M A (ol X.env n pos) Q E s:=by
 obtain⟨m,hn,g⟩:=id I.loc;have jF:=I.jF;obtain⟨u,r,q⟩:=g i n v t C (.inl B)
 have O:m n=Z9 u:=by
  rcases q with⟨_,q⟩|⟨k,_⟩
  .exact q
  .have k:X.env.scope.names.lookup n=Z9 .cell\/X.env.scope.names.lookup n=Z9 .free:=k;rcases k with k|k<;>(rw[B]at k;cases k)
 refine n9 (wpAny_unbindName_local B hn O (by rw[I.ok.kind];rfl) λh' u' D hs=>h _ ?_);have old:∀b o,X.s₀.heap.get? b=Z9 o->b≠X.env.locals:=λb o e=>cu (cr (bj e) I.ok.above);refine⟨I.ok,I.os,I.bare,⟨λb o e z F a=>(hs.2 b (old b o e)).trans (I.base.keep b o e z F a),λb o e z F a=>?_,I.base.free,λb o e a=>?_,I.base.cG,I.base.cA,I.base.cH⟩,⟨_,D,λj y w d l P=>?_⟩,λy c e=>?_,I.free,I.freeC,λp R=>?_,λb ob e=>?_,by rw[du];exact I.len,λx u z=>by rw[a]at z;cases z⟩
 .obtain⟨sl,d⟩:=I.base.slot b o e z F a;exact⟨sl,(hs.2 b (old b o e)).trans d⟩
 .obtain⟨S,d⟩:=I.base.there b o e a;exact⟨S,(hs.2 b (old b o e)).trans d⟩
 .by_cases G:i=j
  .subst G;rw[dm (I.len▸(ba.mp t).1)]at l;cases l
  .rw[df G]at l;obtain⟨T,U,J⟩:=g j y w d l P;refine⟨T,U,?_⟩;have V:y≠n:=λz=>G (BM nd t (z▸d));rcases J with⟨k,J⟩|⟨k,c,e,z⟩
   .exact .inl ⟨k,by simp only[yb V];exact J⟩
   .exact .inr ⟨k,c,e,z.sameBut hs (jF y c e)⟩
 .obtain⟨w,z⟩:=I.cell y c e;exact⟨w,z.sameBut hs (jF y c e)⟩
 .obtain⟨e,W,ne,nf,Y⟩:=I.pin p R;exact⟨(hs.2 p.1 ne).trans e,W,ne,nf,Y⟩
 .have L:∀c w,H c=Z9 w->c≠X.env.locals:=λc w q z=>by rw[z,I.free]at q;cases q
  exact(I.hok b ob e).stay (λc w hc q=>(hs.2 c (hc.elim (λz=>by rw[z];exact L b _ e) λz=>L c _ z)).trans q) (λ_ q=>q) λ_ _ q=>q
theorem zdv (ok:X.Ok)(m:X.fx=[])(nd:X.N.Nodup)(l:X.N[i]?=Z9 n)(o:X.env.scope.names.lookup n=Z9 .local)(p:∀b c,D2.nx b c->w.nx (b.set i Z8) c)(t:∀v c,D2.rt v c->w.rt v c)(y:∀b c,¬D2.bk b c)(B:∀b c,¬D2.ct b c)
  (h:SP (iQ X i n a oe) d D2 f s):wpAny M X.A (do bindName X.env n .none;ol X.env n pos) (λ_ e=>SP X d w f e) E s:=by
 have j:∀{b:L2.St} {c:Hp} {Q:Unit->aq->Prop},Inv (iQ X i n a oe) d b c s->(∀e,Inv X d (b.set i Z8) c e->Q () e)->wpAny M X.A (do bindName X.env n .none;ol X.env n pos) Q E s:=λ{b c Q} I k=>by have x:=QP ok m l I;refine ac (wpAny_bindName (z3s x nd l (.inl o) (v:=.non) rfl (λD C _=>?_) ⟨.inr o,λ_ z=>by rw[m]at z;cases z⟩));refine znh C m nd l o (dm (x.len▸(ba.mp l).1)) λe g=>k e ?_;rw[wz,wz]at g;exact g
 cases f with
 |next=>obtain⟨b,c,I,q⟩:=h;exact j I λe g=>⟨_,c,g,p b c q⟩
 |ret u=>obtain⟨v,b,c,I,r,q⟩:=h;exact j I λe g=>⟨v,_,c,g,r,t v c q⟩
 |brk=>obtain⟨b,c,_,q⟩:=h;simp_all
 |cont=>obtain⟨b,c,_,q⟩:=h;simp_all
theorem IP {C:Addr}(f:Fly P w base outer H s C a b d g):b a=none:=by
 obtain⟨B,_,c,_,fl⟩:=f.hh;cases e:b a with
 |none=>rfl
 |some u=>obtain⟨o,q⟩:=IL (c a u e);rw[fl.2.1]at q;cases q
theorem zb6 {C D:Addr}(inv:∀m,FlD B0 (X.env::X.outer) a (.ref C) dd m->L.heap.UpToSlots m->Inv X pins σ M {L with heap:=m})(w0:FlD B0 (X.env::X.outer) a (.ref C) dd L.heap)(O:M a=Z8)(hs:X.stack=X.env::X.outer)(hf:X.env.frame=Z9 X.env.locals)(hx:X.fx=[])(nd:X.N.Nodup)(H:X.N[i]?=Z9 n)(hv:X.env.scope.names.lookup ("":Str)=Z8)(I:X.env.scope.names.lookup n=Z9 .local)
  (hB:X.mg B=Z9 (.ref D)) (hm:∀A E Q J oe,X.K.In J.heap->J.heap.get? a=Z9 oe->oe.cls=.ref C->Q Z7 J->wpAny (model X.prog X.w) A (xz (.ref a) (.ref D)) Q E J) (P:Gl X B) (R:XX B)
  (hQ:∀f s,SP X pins Dn f s->Q f s) (S:∀oe o,oe.cls=.ref C->oe.dict=dd->oe.data=.fields o->PSs (iQ X i n a oe) (b0::gQ) T) (q:T ⟨λc d=>Dn.nx (c.set i Z8) d,Dn.rt,λ_ _=>False,λ_ _=>False⟩ (σ.set i Z8) M):
  wpAny (model X.prog X.w) X.A (j4 (.ref a) X.env) (λ_ s2=>wpAny (model X.prog X.w) X.A (ma (.ref a) Z8) (λ_ s3=>wpAny (model X.prog X.w) X.A (t8 (.ref a) X.env [.ExceptHandler (Z9 (.Name B np)) (Z9 n) (b0::gQ) hp]) Q X.xe s3) X.xe s2) X.xe L:=by
 have ok:=(inv _ w0 (Heap.UpToSlots.refl _)).ok;refine z7y (hs▸ok.frames) hf w0 λh4 p r=>IK p λU V t=>?_;have u:=inv U V (r.trans t);refine wpAny_handleBy_cons (codeAny_handlers_test ?_) (by intro z;cases z);refine ke u.ok.kind P (qv (u.ok.glob▸u.mod.glob.keeps u.bk) hB ?_) R;obtain⟨ob,_,W,x,_⟩:=V.first;refine hm _ _ _ _ ob u.dS W x (codeAny_handlers_suite_as (QJ V λm w6 Y=>?_));have y:=inv m w6 ((r.trans t).trans Y);obtain⟨oe,o,e,F,G,b⟩:=w6.first;refine z3s y nd H (.inl I) (v:=.ref a) rfl (λs7 I7 ch=>?_) ⟨.inr I,λ_ z=>by rw[hx]at z;cases z⟩;obtain⟨ad,Z,QQ⟩:=ch;have nL:a≠X.env.locals:=λz=>by obtain⟨_,o3,l,j⟩:=y.stack.mem (by rw[hs,dr,hf];exact bb);rw[<-z]at l;rw[e]at l;cases l;exact j o b
 have nF:a∉X.fs:=λz=>by obtain⟨_,o3,l,j⟩:=y.bV.mem z;rw[e]at l;cases l;exact j o b
 have nA:a≠ad:=λz=>by
  rcases QQ with h|h
  .exact nL (z.trans h)
  .obtain⟨v,oc,k,g⟩:=y.cell n ad h;rw[<-z]at k;rw[e]at k;cases k;rw[b]at g;cases g
 have I8:=zq4 I7 nd H hv I (dm (y.len▸(ba.mp H).1)) ((Z.2 a nA).trans e) O nL nF (λv z=>by rw[b]at z;cases z);rw[wz]at I8;refine gq (S oe o F G b pins s7 _ M ⟨λc d=>Dn.nx (c.set i Z8) d,Dn.rt,λ_ _=>False,λ_ _=>False⟩ I8 q) (λAz s9 h9=>?_) λ_ _ z=>z.elim;refine gq (zdv (D2:=⟨λc d=>Dn.nx (c.set i Z8) d,Dn.rt,λ_ _=>False,λ_ _=>False⟩) ok hx nd H I (λ_ _ z=>z) (λ_ _ z=>z) (λ_ _ z=>z) (λ_ _ z=>z) h9) (λ_ s5 U=>hQ _ s5 U) λ_ _ z=>z
theorem Fly.land {C:Addr}(I:Inv X pins σ H1 s1)(fl:Fly X.prog X.w X.base X.stack H1 s1 C a H' s' dd)(QR:X.base.StaysIn B0)(QS:HOk X.prog X.w H' B0)(yB:∀b o,s1.heap.get? b=Z9 o->b∉frs X.stack->∃o',B0.get? b=Z9 o'/\(H1 b=Z8->o'=o))(w6:FlD B0 X.stack a (.ref C) dd h6)(up:s'.heap.UpToSlots h6):Inv X pins σ H' {s' with heap:=h6}:=by refine Fly.inv ⟨fl.os,fl.bare,fl.cG,fl.cA,fl.cH,fl.free,⟨B0,QR,QS,yB,w6⟩,λb o e z hb=>?_⟩ I;obtain⟨sl,e1⟩:=fl.slot b o e z hb;obtain⟨_,o3,e3,QT⟩:=I.stack.mem hb;rw[e]at e3;cases e3;obtain⟨DL,e4⟩:=up b _ e1 QT;exact⟨DL,e4⟩
theorem yC {C D:Addr}(d:fI X.K C=Z7)(f:fI X.K D=Z7)(g:Z0 X.K (.ref C) (.ref D)=Z9 Z7)(A:d8)(E:Value->aq->Prop)(Q:Bool->aq->Prop)(b:aq)(oe:Obj)(k:X.K.In b.heap)(e:b.heap.get? a=Z9 oe)(c:oe.cls=.ref C)(q:Q Z7 b):wpAny (model X.prog X.w) A (xz (.ref a) (.ref D)) Q E b:=by obtain⟨h,i,j⟩:=XC.mk k d;obtain⟨l,m,_⟩:=XC.mk k f;exact QF i m e c (j _ _ g) q
end
section
variable {X:Cx}{n x:Str}{p p1 p2 pos:Pos}{a C:Addr}{oe:Obj}{v:V}{u:Value}{b:Bool}
theorem IQ (hx:X.fx=[(n,.ref a)])(hl:X.env.scope.names.lookup n=Z9 .local)(hd:XX n):PE X (.Name n p) (λ_ H Q=>Q (.ref a) H):=by
 intro b s c H Q I h;obtain⟨m,hn,hm⟩:=I.fx n _ (hx▸ag.mpr rfl);rcases hm with hm|⟨k,_⟩
 .exact vh (tq I.ok.kind hl hn hm.2 ⟨.ref a,H,I,rfl,h⟩) hd
 .have k:X.env.scope.names.lookup n=Z9 .cell\/X.env.scope.names.lookup n=Z9 .free:=k;rcases k with k|k<;>(rw[hl]at k;cases k)
theorem QU (a:Gl X x)(hm:X.mg x=Z9 u\/(X.mg x=Z8/\db x=Z9 u/\x≠"__name__"))(r:RelV v u)(hd:XX x):PE X (.Name x p) (λ_ H Q=>Q v H):=by
 intro b s f H Q I h;rcases hm with hm|⟨c,d,e⟩
 .exact z3v I a hm ⟨v,H,I,r,h⟩ hd
 .exact z2d I a c d ⟨v,H,I,r,h⟩ e hd
def Xh (X:Cx)(a:Addr)(oe:Obj):Prop:=∀pins σ H s,Inv X pins σ H s->s.heap.get? a=Z9 oe
theorem zvj (hm:X.mg "isinstance"=Z8)(k:Gl X "isinstance")(l:X.fx=[(n,.ref a)])(m:X.env.scope.names.lookup n=Z9 .local)(hd:XX n)(o:Xh X a oe)(t:oe.cls=.ref C)
  (f:Gl X x) (g:X.mg x=Z9 u\/(X.mg x=Z8/\db x=Z9 u/\x≠"__name__")) (r:RelV v u) (y:∀w,RelV v w->w=u) (h:XX x) (xa:XA X.K C) (A:XV X.K u) (hs:Z0 X.K (.ref C) u=Z9 b):
  PE X (.Call (.Name "isinstance" p) [.Name n p1,.Name x p2] [] pos) (tD X.K λ_=>.ok (.fr,.bool b)):=by
 rintro c s B H Q I ⟨O,F,z,so,e,q⟩
 cases e;refine l6 (z2d (u:=.builtin "isinstance") I k hm (by decide+kernel) ?_ dc dc);refine PyProof.Rows.callWith_builtin1 (aI ((zU (IQ (p:=p1) l m hd) (zU (QU (p:=p2) f g r h) hU)) pos c s B H (λj d=>j=[.ref a,v]/\d=H) I ⟨rfl,rfl⟩) λP R D=>?_) rfl rfl;obtain⟨j,d,i,E,rfl,rfl⟩:=D;cases E with
 |cons G rt=>
  cases rt with
  |cons J rn=>cases rn;rename_i L M;obtain rfl:L=ZS a:=G;have N:=y M J;subst N;exact zth i.dS xa (o _ _ _ _ i) t A hs λS=>⟨.bl b,d,i.tok _,rfl,q _ d (Same.refl d) rfl⟩
end
section
theorem aE (h:(a&&b)=Z7):a=Z7/\b=true:=bn.mp h
theorem aP (h:(a&&b&&c)=Z7):a=Z7/\b=Z7/\c=true:=⟨(aE (aE h).1).1,(aE (aE h).1).2,(aE h).2⟩
theorem bE (h:(a&&b&&c&&d)=Z7):a=Z7/\b=Z7/\c=Z7/\d=true:=⟨(aP (aE h).1).1,(aP (aE h).1).2.1,(aP (aE h).1).2.2,(aE h).2⟩
theorem dG (h:(a&&b&&c&&d&&e)=Z7):a=Z7/\b=Z7/\c=Z7/\d=Z7/\e=true:=⟨(bE (aE h).1).1,(bE (aE h).1).2.1,(bE (aE h).1).2.2.1,(bE (aE h).1).2.2.2,(aE h).2⟩
theorem cE (h:(!b)=Z7):b=false:=by cases b<;>first|rfl|cases h
theorem ff {p:Prop}(h:b=Z6)(z:b=Z7):p:=by rw[h]at z;cases z
theorem fJ (h:l.isEmpty=Z7):l=[]:=by cases l<;>first|rfl|cases h
theorem uU (h:(!l.isEmpty)=Z7):∃x r,l=x::r:=by cases l<;>first|exact⟨_,_,rfl⟩|cases h
theorem aG (h:o.any f=Z7):∃v,o=Z9 v/\f v=true:=by
 cases o with
 |none=>cases h
 |some v=>exact⟨v,rfl,h⟩
theorem bS {a:Type}{o:Option a}{v:a}{q:a->Prop}(h:o=Z9 v)(d:o=Z8\/∃u,o=Z9 u/\q u):q v:=by grind
theorem yD (h:CG e=Z9 v):∃p,e=.Name v p:=bS (q:=λv=>∃p,e=.Name v p) h (by cases e<;>first|exact .inl rfl|exact .inr ⟨_,rfl,_,rfl⟩)
theorem uV (h:gL e=Z9 v):∃k p,e=.Constant v k p:=bS (q:=λv=>∃k p,e=.Constant v k p) h (by cases e<;>first|exact .inl rfl|exact .inr ⟨_,rfl,_,_,rfl⟩)
theorem DM (h:oA e=Z9 v):∃p,e=.BinOp v.1 v.2.1 v.2.2 p:=bS (q:=λv=>∃p,e=.BinOp v.1 v.2.1 v.2.2 p) h (by cases e<;>first|exact .inl rfl|exact .inr ⟨_,rfl,_,rfl⟩)
theorem rZ (h:z7 e=Z9 v):∃p,e=.UnaryOp v.1 v.2 p:=bS (q:=λv=>∃p,e=.UnaryOp v.1 v.2 p) h (by cases e<;>first|exact .inl rfl|exact .inr ⟨_,rfl,_,rfl⟩)
theorem sD (h:rQ e=Z9 v):∃p,e=.Compare v.1 v.2.1 v.2.2 p:=bS (q:=λv=>∃p,e=.Compare v.1 v.2.1 v.2.2 p) h (by cases e<;>first|exact .inl rfl|exact .inr ⟨_,rfl,_,rfl⟩)
theorem lO (h:uI e=Z9 v):e=.BoolOp v.1 v.2.1 v.2.2:=bS (q:=λv=>e=.BoolOp v.1 v.2.1 v.2.2) h (by cases e<;>first|exact .inl rfl|exact .inr ⟨_,rfl,rfl⟩)
theorem QV (h:xQ e=Z9 v):∃p,e=.IfExp v.1 v.2.1 v.2.2 p:=bS (q:=λv=>∃p,e=.IfExp v.1 v.2.1 v.2.2 p) h (by cases e<;>first|exact .inl rfl|exact .inr ⟨_,rfl,_,rfl⟩)
theorem AA (h:oB e=Z9 v):∃k p,e=.Tuple v k p:=bS (q:=λv=>∃k p,e=.Tuple v k p) h (by cases e<;>first|exact .inl rfl|exact .inr ⟨_,rfl,_,_,rfl⟩)
theorem DN (h:oE e=Z9 v):∃p,e=.List v p:=bS (q:=λv=>∃p,e=.List v p) h (by cases e<;>first|exact .inl rfl|exact .inr ⟨_,rfl,_,rfl⟩)
theorem yE (h:CH e=Z9 v):∃p,e=.Dict v.1 v.2 p:=bS (q:=λv=>∃p,e=.Dict v.1 v.2 p) h (by cases e<;>first|exact .inl rfl|exact .inr ⟨_,rfl,_,rfl⟩)
theorem uW (h:iO e=Z9 v):∃p,e=.Subscript v.1 v.2 p:=bS (q:=λv=>∃p,e=.Subscript v.1 v.2 p) h (by cases e<;>first|exact .inl rfl|exact .inr ⟨_,rfl,_,rfl⟩)
theorem QW (h:xR e=Z9 v):∃p,e=.Slice v.1 v.2.1 v.2.2 p:=bS (q:=λv=>∃p,e=.Slice v.1 v.2.1 v.2.2 p) h (by cases e<;>first|exact .inl rfl|exact .inr ⟨_,rfl,_,rfl⟩)
theorem yF (h:CJ e=Z9 v):e=.Call v.1 v.2.1 v.2.2.1 v.2.2.2:=bS (q:=λv=>e=.Call v.1 v.2.1 v.2.2.1 v.2.2.2) h (by cases e<;>first|exact .inl rfl|exact .inr ⟨_,rfl,rfl⟩)
theorem sE (h:z8 e=Z9 v):e=.Attribute v.1 v.2.1 v.2.2:=bS (q:=λv=>e=.Attribute v.1 v.2.1 v.2.2) h (by cases e<;>first|exact .inl rfl|exact .inr ⟨_,rfl,rfl⟩)
theorem yG (h:CK e=Z9 v):∃p,e=.ListComp v.1 v.2.1 v.2.2 p:=bS (q:=λv=>∃p,e=.ListComp v.1 v.2.1 v.2.2 p) h (by cases e<;>first|exact .inl rfl|exact .inr ⟨_,rfl,_,rfl⟩)
theorem eK (h:aX l=Z9 v):l=[v]:=by rcases l with _|⟨x,_|⟨y,l⟩⟩<;>cases h;rfl
theorem DO (h:oF l=Z9 v):l=[v.1,v.2]:=by rcases l with _|⟨x,_|⟨y,_|⟨z,l⟩⟩⟩<;>cases h;rfl
theorem gR (h:gO e=Z9 v):∃q p,e=.Call (.Name v.1 q) v.2 [] p:=by
 obtain⟨u,hu,h⟩:=mf.mp h;cases a:u.2.2.1.isEmpty with
 |false=>rw[a]at h;simp_all
 |true=>rw[a]at h;obtain⟨x,b,rfl⟩:=bc.mp h;obtain⟨q,c⟩:=yD b;exact⟨q,_,by rw[yF hu,c,fJ a]⟩
theorem lP (h:rR e=Z9 v):∃b c,e=.Call (.Attribute v.1 v.2.1 b) v.2.2.1 [] c/\v.2.2.2=(b.endLine==c.line):=by
 obtain⟨u,hu,h⟩:=mf.mp h;cases a:u.2.2.1.isEmpty with
 |false=>rw[a]at h;simp_all
 |true=>rw[a]at h;obtain⟨x,d,rfl⟩:=bc.mp h;exact⟨_,_,by rw[yF hu,sE d,fJ a],rfl⟩
theorem gT (h:iY f e=Z7):∃x p,e=.Name x p/\f x=true:=by obtain⟨x,a,h⟩:=aG h;obtain⟨p,b⟩:=yD a;exact⟨x,p,b,h⟩
def IS (K:Z5)(mg:Str->Option Value)(c C:Str)(b:Bool):Prop:=∃A v u,mg c=Z9 (.ref A)/\XA K A/\XV K u/\Z0 K (.ref A) u=Z9 b/\RelV v u/\(∀w,RelV v w->w=u)/\(mg C=Z9 u\/(mg C=Z8/\db C=Z9 u/\C≠"__name__"))
def DP (K:Z5)(mg:Str->Option Value)(c:Str):Prop:=∃C,mg c=Z9 (.ref C)/\exV K C=Z7
def QX (K:Z5)(mg:Str->Option Value)(c B:Str):Prop:=∃C D,mg c=Z9 (.ref C)/\mg B=Z9 (.ref D)/\fI K C=Z7/\fI K D=Z7/\Z0 K (.ref C) (.ref D)=Z9 Z7
structure pR (Γ:Gm)(K:Z5)(mg:Str->Option Value):Prop where
 sub:∀c C b,Γ.sub.contains (c,C,b)=Z7->IS K mg c C b
 rs:∀c,Γ.rs.contains c=Z7->DP K mg c
 fG:∀c B,Γ.fG.contains (c,B)=Z7->QX K mg c B
structure Cok (Γ:Gm)(Κ:List D)(Φ:List Fn)(X:Cx)(r:Nat):Prop where
 hN:X.N=Γ.N
 hs:X.env.scope=Γ.sc
 nd:Γ.N.Nodup
 fn:Γ.blk=Z6->∀x,X.fn x=Z7
 kind:Γ.sc.kind=.function
 free:∀x,Γ.free.contains x=Z7->X.mg x=Z8
 fns:∀(j:Nat) f n,Γ.fns[j]?=Z9 (f,n)->∃m k ps,Φ[j]?=Z9 m/\k<=r/\Cal X.prog X.w X.K X.mg X.base k f ps (spD X.K n m)
 cst:∀(j:Nat) x,Γ.cst[j]?=Z9 x->∃d a,Κ[j]?=Z9 d/\X.mg x=Z9 (.ref a)/\∀H B,B Z8->Rep X.K H B (.ref a) d
 mJ:∀(j:Nat) f n,Γ.fns[j]?=Z9 (f,n)->∃m k ps,Φ[j]?=Z9 m/\k<=r/\lN X.prog X.w X.K X.mg X.base k f ps n m
 room:Γ.cm=Z7->Room r X.A
 calm:Γ.cm=Z7->X.calm=Z7
 hu:X.A.units+64<cLine
 jY:Γ.blk=Z6->X.stack=X.env::X.outer/\X.env.frame=Z9 X.env.locals
 yH:Γ.xc=Z8->∀x u,(x,u)∈X.fx->Γ.kp.contains x=Z7
 xc:∀n c,Γ.xc=Z9 (n,c)->∃a oe C,X.fx=[(n,.ref a)]/\Xh X a oe/\oe.cls=.ref C/\X.mg c=Z9 (.ref C)
 xk:pR Γ X.K X.mg
section
variable {Γ:Gm}{Κ:List D}{Φ:List Fn}{X:Cx}{r:Nat}
theorem Cok.gl (k:Cok a Κ Φ X r)(h:lG a x=Z7):Gl X x/\XX x:=by unfold lG at h;rw[cq]at h;refine⟨?_,by simpa using h.2⟩;show X.env.scope.names.lookup x=_;rw[k.hs];simpa using h.1
theorem Cok.aH (k:Cok b Κ Φ X r)(h:fX b i x=Z7):X.N[i]?=Z9 x/\Vis X.env.scope x/\XX x/\(x==("__classdict__":Str))=false:=by
 unfold fX at h;simp at h;have⟨⟨⟨h1,a⟩,h3⟩,h4⟩:=h;refine⟨by rw[k.hN];exact h1,?_,by simpa using h3,by simpa using h4⟩;rw[k.hs];rcases a with(a|a)|a
 .exact .inl a
 .exact .inr (.inl a)
 .exact .inr (.inr a)
theorem Cok.loc (k:Cok d Κ Φ X r)(h:jU d i x=Z7):X.N[i]?=Z9 x/\Loc X.env.scope x/\Sto X x:=by
 unfold jU at h;simp only[cq,oy,beq_iff_eq,wu]at h;obtain⟨⟨g,b⟩,f,c⟩:=h;refine⟨by rw[k.hN];exact g,?_,?_,λu z=>?_⟩
 .unfold L2.Loc;rw[k.hs];rcases b with b|⟨_,b⟩
  .exact .inl b
  .exact .inr b
 .rcases b with b|⟨b,_⟩
  .exact .inr (k.hs▸b)
  .exact .inl (k.fn b x)
 .cases e:d.xc with
  |none=>rw[k.yH e x u z]at f;cases f
  |some p=>obtain⟨a,m,C,j,_⟩:=k.xc p.1 p.2 e;rw[j]at z;have l:x=p.1:=congrArg x4 (ag.mp z);rw[e]at c;have c:(!(p.1==x))=true:=c;rw[l,beq_self_eq_true]at c;cases c
theorem Cok.IT (k:Cok a Κ Φ X r)(h:xc0 a=Z7):X.fx=[]:=by have h:=bn.mp h;refine List.eq_nil_iff_forall_not_mem.mpr λp b=>?_;have:=k.yH (gk.mp h.1) p.1 p.2 b;rw[rc.mp h.2]at this;cases this
theorem IU (h:xc0 a=Z7):a.xc=none:=gk.mp (bn.mp h).1
theorem Cok.blt (k:Cok a Κ Φ X r)(h:bX a x=Z7):Gl X x/\X.mg x=Z8/\XX x/\x≠"__name__":=by unfold bX at h;simp only[bn]at h;obtain⟨⟨b,c⟩,d⟩:=h;obtain⟨g1,g2⟩:=k.gl b;exact⟨g1,k.free x c,g2,by simpa using d⟩
theorem QY {C:Addr}:(blk X scope a C b s H).env.scope=z6 scope X.env.scope:=rfl
theorem Cok.blk (k:Cok a Κ Φ X r)(c:scope.kind=.function)(nd:b.Nodup)(C:Addr)(d:List Addr)(s:aq)(H:Hp):Cok {a with N:=b,sc:=z6 scope a.sc,blk:=Z7,xc:=Z8,kp:=[]} Κ Φ (blk X scope b C d s H) r where
 hN:=rfl
 hs:=by rw[QY,k.hs]
 nd:=nd
 fn:=λz=>by cases z
 kind:=c
 free:=k.free
 fns:=k.fns
 cst:=k.cst
 mJ:=k.mJ
 room:=k.room
 calm:=k.calm
 hu:=k.hu
 jY:=λz=>by cases z
 yH:=λ_ _ _ z=>by cases z
 xc:=λ_ _ z=>by cases z
 xk:=⟨k.xk.sub,k.xk.rs,k.xk.fG⟩
theorem QZ (k:Cok a Κ Φ X r)(all:List Nat):∀{es:List Expr},CL a is es=Z7->PGs X es (lJ X.K all is)/\(iy es X.env).length=is.length/\(iy es X.env).findIdx? (·.1)=none:=by
 induction is with
 |nil=>intro es h;cases fJ h;exact⟨Pd,rfl,rfl⟩
 |cons i is b=>
  intro es h;cases es with
  |nil=>cases h
  |cons e es=>
   obtain⟨h0,c⟩:=aE h;obtain⟨x,p,rfl,h0⟩:=gT h0;obtain⟨d,f,g⟩:=k.loc h0;obtain⟨a1,a2,a3⟩:=b c;refine⟨Pe (k.hN▸k.nd) d f g a1,?_,?_⟩
   .show(iy es X.env).length+1=_;rw[a2];rfl
   .show((Z6,vi (.Name x p) X.env)::iy es X.env).findIdx? (·.1)=Z8;rw[List.findIdx?_cons,a3];rfl
theorem uX (k:Cok b Κ Φ X r)(h:oG b t e=Z7):PG X e (tDG X.K t):=by
 cases t with
 |nm i=>obtain⟨x,p,rfl,a⟩:=gT h;obtain⟨c,d,f⟩:=k.loc a;exact Pc (k.hN▸k.nd) c d f
 |tp is=>obtain⟨h0,h⟩:=aE h;obtain⟨v,g,a⟩:=aG h;obtain⟨_,_,rfl⟩:=AA g;obtain⟨a1,a2,a3⟩:=QZ k is a;exact Pf (k.calm h0) a1 rfl a3 a2.symm
theorem IV (h:plainT e=Z7)(env:Env):∀a,xl e env a=(do let v <-a;standAt e.pos;x8 [v] (truthy v)):=by
 intro a;cases e<;>first|(cases h;done)|rfl|skip
 rename_i b x p;cases b<;>first|(cases h;done)|rfl
theorem sF (h:pM e=Z7)(env:Env):∀x,im e env x=pure x:=by intro x;cases e<;>first|(cases h;done)|rfl
end
variable (Κ:List D)(Φ:List Fn)
theorem Q0 (c:C):∀b es d f,dF b c es=Z7->cW Κ Φ c d=.ok f->f.length=es.length/\(es.all λe=>!isStar e)=true:=by
 induction c with
 |nil=>intro b es d f h e;cases fJ h;cases e;exact⟨rfl,rfl⟩
 |cons a r _ i=>
  intro b es d f h e;cases es with
  |nil=>cases h
  |cons x es=>obtain⟨j,_,k⟩:=aP h;obtain⟨y,_,e⟩:=Res.aA e;obtain⟨g,l,e⟩:=Res.aA e;cases e;obtain⟨m,n⟩:=i b es d g k l;exact⟨by rw[bu,bu,m],by rw[eg,n,j];rfl⟩
 |_=>exact λ_ _ _ _ h=>ff rfl h
end
section
theorem Q3 (h:tyB a T t=Z7):∃x p,t=.Name x p/\x=Str.ofString T/\bX a x=Z7/\T∈tysB:=by obtain⟨x,p,e,h⟩:=gT h;obtain⟨b,c,d⟩:=aP h;exact⟨x,p,e,yh b,c,cn.mp d⟩
theorem DQ (h:(a||b)=Z7)(n:b=Z6):a=true:=by rw[n,qm]at h;exact h
theorem Q4 (h:T∈tysB):db (Str.ofString T)=Z9 (.type T):=by simp only[tysB,au,nq,or_false]at h;rcases h with rfl|rfl|rfl|rfl|rfl<;>decide+kernel
variable (Κ:List D)(Φ:List Fn)
theorem sG:∀{c:C} {es:List Expr},dF g c es=Z7->(es.all λe=>!isStar e)=true:=by
 intro c
 induction c with
 |nil=>intro es h;cases fJ h;rfl
 |cons a r _ b=>
  intro es h;cases es with
  |nil=>rfl
  |cons e es=>obtain⟨d,_,f⟩:=aP h;rw[eg,b f,d];rfl
 |_=>exact λh=>ff rfl h
theorem yI (h:dF d c es=Z7):∀b a,cW Κ Φ c b=.ok a->a.length=es.length:=λb a e=>(Q0 Κ Φ c d es b a h e).1
structure Sd (c:C):Prop where
 E:∀(Γ:Gm) (X:Cx) (r:Nat) (e:Expr),Cok Γ Κ Φ X r->chkE Γ c e=Z7->PE X e (tD X.K (aF Κ Φ c))
 T:∀(Γ:Gm) (X:Cx) (r:Nat) (e:Expr),Cok Γ Κ Φ X r->eB Γ c e=Z7->PT X e (dR X.K (cP Κ Φ c))/\((∃o l p,e=.BoolOp o l p)->PW X e (dR X.K (cP Κ Φ c)))
 Q:∀(Γ:Gm) (X:Cx) (r:Nat) (l:Expr) (ops:List CmpOp) (rs:List Expr) (pos:Pos),Cok Γ Κ Φ X r->chkE Γ c (.Compare l ops rs pos)=Z7->PT X (.Compare l ops rs pos) (dR X.K λρ=>aF Κ Φ c ρ>>=λx=>iW x.2)
 A:∀(Γ:Gm) (X:Cx) (r:Nat) (es:List Expr),Cok Γ Κ Φ X r->dF Γ c es=Z7->PA X es (tDA X.K (cW Κ Φ c))
 O:∀(Γ:Gm) (X:Cx) (r:Nat) (e:Option Expr),Cok Γ Κ Φ X r->oH Γ c e=Z7->PO X e (tDO X.K (rN Κ Φ c))
 W:∀(Γ:Gm) (X:Cx) (r:Nat) (e tg:Expr),Cok Γ Κ Φ X r->Ab c tg=Z7->iP Γ c e=Z7->PI X tg e (tDW X.K (evW Κ Φ c))
 G:∀(Γ:Gm) (X:Cx) (r:Nat) (e:Expr),Cok Γ Κ Φ X r->rT Γ c e=Z7->∃a,c=.tv a/\PE X e (tD X.K (aF Κ Φ a))
def oR:C->Nat
 |.and _ _|.or _ _|.not _|.tv _|.nil|.cons _ _|.iM _|.enum _|.zip _ _=>2
 |.cmp _ _ _=>1
 |_=>0
variable {Κ:List D}{Φ:List Fn}{a b c:C}
section
variable {Γ:Gm}{e tg:Expr}{es:List Expr}{o:Option Expr}
theorem Q5 (h:oR c<2):eB Γ c e=false:=by cases c<;>first|rfl|exact absurd h (dk 2)
theorem Q6 (h:oR c<2):dF Γ c es=false:=by cases c<;>first|rfl|exact absurd h (dk 2)
theorem Q7 (h:oR c<2):oH Γ c o=false:=by cases c<;>first|rfl|exact absurd h (dk 2)
theorem Q8 (h:oR c<2):iP Γ c e=false:=by cases c<;>first|rfl|exact absurd h (dk 2)
theorem Q9 (h:oR c<2):rT Γ c e=false:=by cases c<;>first|rfl|exact absurd h (dk 2)
end
theorem Sd.q (f:∀a X r e,Cok a Κ Φ X r->chkE a c e=Z7->PE X e (tD X.K (aF Κ Φ c)))(g:∀a X r l b rs pos,Cok a Κ Φ X r->chkE a c (.Compare l b rs pos)=Z7->PT X (.Compare l b rs pos) (dR X.K λρ=>aF Κ Φ c ρ>>=λx=>iW x.2))(d:oR c<2):Sd Κ Φ c:=⟨f,λ_ _ _ _ _ h=>ff (Q5 d) h,g,λ_ _ _ _ _ h=>ff (Q6 d) h,λ_ _ _ _ _ h=>ff (Q7 d) h,λ_ _ _ _ _ _ _ h=>ff (Q8 d) h,λ_ _ _ _ _ h=>ff (Q9 d) h⟩
theorem Ra (h:oR c=0):chkE Γ c (.Compare l ops rs pos)=false:=by cases c<;>first|rfl|(cases h;done)
theorem Sd.x (b:∀Γ X r e,Cok Γ Κ Φ X r->chkE Γ c e=Z7->PE X e (tD X.K (aF Κ Φ c)))(a:oR c=0):Sd Κ Φ c:=Sd.q b (λ_ _ _ _ _ _ _ _ h=>ff (Ra a) h) (a▸Nat.zero_lt_two)
theorem Rb:Sd Κ Φ (.var i):=Sd.x (λf X r e k h=>by obtain⟨x,p,rfl,h⟩:=gT h;obtain⟨a,b,c,d⟩:=k.aH h;exact ON a b c d) rfl
theorem Rc:Sd Κ Φ .non:=Sd.x (λa X r e k h=>by obtain⟨_,_,rfl⟩:=uV (ye h);exact Ag MO λ_ _=>rfl) rfl
theorem DR {b:Bool}:Sd Κ Φ (.bl b):=Sd.x (λa X r e k h=>by obtain⟨_,_,rfl⟩:=uV (ye h);exact Ag MN λ_ _=>rfl) rfl
theorem Rf {b:Int}:Sd Κ Φ (.int b):=Sd.x (λa X r e k h=>by obtain⟨_,_,rfl⟩:=uV (ye h);exact Ag MM λ_ _=>rfl) rfl
theorem Rg {b:Str}:Sd Κ Φ (.str b):=Sd.x (λd X r e k h=>by obtain⟨a,c⟩:=aE h;obtain⟨_,_,rfl⟩:=uV (ye a);exact Ag GL λ_ _=>⟨rfl,c⟩) rfl
theorem Rh (d:Sd Κ Φ a)(f:Sd Κ Φ b):Sd Κ Φ (.bin o a b):=Sd.x (λc X r e k h=>by obtain⟨v,g,i⟩:=aG h;obtain⟨p,rfl⟩:=DM g;obtain⟨j,l,m,n⟩:=bE i;cases ye j;exact OO l (d.E c X r _ k m) (f.E c X r _ k n)) rfl
theorem IW (h:chkE Γ (.cmp op a b) e=Z7):∃l r p,e=.Compare l [op] [r] p/\z5q op=Z7/\gh op r=Z6/\chkE Γ a l=Z7/\chkE Γ b r=true:=by obtain⟨⟨l,o,rs⟩,hv,h9⟩:=aG h;obtain⟨p,rfl⟩:=sD hv;obtain⟨h1,h2⟩:=aE h9;obtain⟨r,hr,h3⟩:=aG h2;cases ye h1;cases eK hr;obtain⟨h2,h3,h4,h5⟩:=bE h3;exact⟨l,r,p,rfl,h2,cE h3,h4,h5⟩
theorem Ri (j:Sd Κ Φ a)(m:Sd Κ Φ b):Sd Κ Φ (.cmp s a b):=Sd.q (λc X r e k h=>by
 obtain⟨_,_,_,rfl,d,f,g,i⟩:=IW h;exact zto k.hu d f (j.E c X r _ k g) (m.E c X r _ k i)) (λc X r l n rs p k h=>by
 obtain⟨_,_,_,o,d,f,g,i⟩:=IW h;cases o;exact zu2 k.hu d f (j.E c X r _ k g) (m.E c X r _ k i)) Nat.one_lt_two
theorem yJ (h:uJ f g o p xs=Z7):(∃x y,xs=[x,y]/\f x=Z7/\g y=Z7)\/∃x y z r,xs=x::y::z::r/\f x=Z7/\g (.BoolOp o (y::z::r) p)=true:=by
 rcases xs with _|⟨x,_|⟨y,_|⟨z,xs⟩⟩⟩
 .cases h
 .cases h
 .exact .inl ⟨x,y,rfl,(aE h).1,(aE h).2⟩
 .exact .inr ⟨x,y,z,xs,rfl,(aE h).1,(aE h).2⟩
theorem Rj (g:Sd Κ Φ a)(i:Sd Κ Φ b):Sd Κ Φ (.and a b) where
 E:=λc X r e k h=>by
  obtain⟨⟨o,q,p⟩,j,l⟩:=aG h;cases lO j;obtain⟨m,n⟩:=aE l;cases ye m;rcases yJ n with⟨x,y,rfl,d,f⟩|⟨x,y,z,t,rfl,d,f⟩
  .exact HG (g.E c X r _ k d) (BP (i.E c X r _ k f))
  .exact HG (g.E c X r _ k d) (i.E c X r _ k f)
 T:=λc X r e k h=>by
  obtain⟨⟨o,q,p⟩,j,l⟩:=aG h;cases lO j;obtain⟨m,n⟩:=aE l;cases ye m;rcases yJ n with⟨x,y,rfl,d,f⟩|⟨x,y,z,t,rfl,d,f⟩
  .have w:=w_and (pos:=p) (g.T c X r _ k d).1 (MU (i.T c X r _ k f).1);exact⟨w.pt,λ_=>w⟩
  .have w:=w_and (g.T c X r _ k d).1 ((i.T c X r _ k f).2 ⟨_,_,_,rfl⟩);exact⟨w.pt,λ_=>w⟩
 Q:=λ_ _ _ _ _ _ _ _ h=>ff rfl h
 A:=λ_ _ _ _ _ h=>ff rfl h
 O:=λ_ _ _ _ _ h=>ff rfl h
 W:=λ_ _ _ _ _ _ _ h=>ff rfl h
 G:=λ_ _ _ _ _ h=>ff rfl h
theorem DS (g:Sd Κ Φ a)(i:Sd Κ Φ b):Sd Κ Φ (.or a b) where
 E:=λc X r e k h=>by
  obtain⟨⟨o,q,p⟩,j,l⟩:=aG h;cases lO j;obtain⟨m,n⟩:=aE l;cases ye m;rcases yJ n with⟨x,y,rfl,d,f⟩|⟨x,y,z,t,rfl,d,f⟩
  .exact yk (g.E c X r _ k d) (BP (i.E c X r _ k f))
  .exact yk (g.E c X r _ k d) (i.E c X r _ k f)
 T:=λc X r e k h=>by
  obtain⟨⟨o,q,p⟩,j,l⟩:=aG h;cases lO j;obtain⟨m,n⟩:=aE l;cases ye m;rcases yJ n with⟨x,y,rfl,d,f⟩|⟨x,y,z,t,rfl,d,f⟩
  .have w:=w_or (pos:=p) (g.T c X r _ k d).1 (MV (i.T c X r _ k f).1);exact⟨w.pt,λ_=>w⟩
  .have w:=w_or (g.T c X r _ k d).1 ((i.T c X r _ k f).2 ⟨_,_,_,rfl⟩);exact⟨w.pt,λ_=>w⟩
 Q:=λ_ _ _ _ _ _ _ _ h=>ff rfl h
 A:=λ_ _ _ _ _ h=>ff rfl h
 O:=λ_ _ _ _ _ h=>ff rfl h
 W:=λ_ _ _ _ _ _ _ h=>ff rfl h
 G:=λ_ _ _ _ _ h=>ff rfl h
theorem Rk (i:Sd Κ Φ a):Sd Κ Φ (.not a) where
 E:=λb X r e k h=>by obtain⟨⟨o,x⟩,c,d⟩:=aG h;obtain⟨p,rfl⟩:=rZ c;obtain⟨f,g⟩:=aE d;cases ye f;exact OS (i.E b X r _ k g)
 T:=λb X r e k h=>by obtain⟨⟨o,x⟩,c,d⟩:=aG h;obtain⟨p,rfl⟩:=rZ c;obtain⟨f,g⟩:=aE d;cases ye f;exact⟨rV (i.T b X r _ k g).1,λ⟨_,_,_,z⟩=>by cases z⟩
 Q:=λ_ _ _ _ _ _ _ _ h=>ff rfl h
 A:=λ_ _ _ _ _ h=>ff rfl h
 O:=λ_ _ _ _ _ h=>ff rfl h
 W:=λ_ _ _ _ _ _ _ h=>ff rfl h
 G:=λ_ _ _ _ _ h=>ff rfl h
theorem Rm (h:HC e=Z7):∃l o r p,e=.Compare l o r p:=by cases e<;>first|exact ff rfl h|exact⟨_,_,_,_,rfl⟩
theorem DT (d:Sd Κ Φ a):Sd Κ Φ (.tv a) where
 E:=λ_ _ _ _ _ h=>ff rfl h
 T:=λb X r e k h=>by
  obtain⟨c,f⟩:=aE h;rcases gz.mp c with c|c
  .exact⟨OT (d.E b X r _ k f) (IV c _),λ⟨_,_,_,z⟩=>by subst z;cases c⟩
  .obtain⟨_,_,_,_,rfl⟩:=Rm c;exact⟨d.Q b X r _ _ _ _ k f,λ⟨_,_,_,z⟩=>by cases z⟩
 Q:=λ_ _ _ _ _ _ _ _ h=>ff rfl h
 A:=λ_ _ _ _ _ h=>ff rfl h
 O:=λb X r e k h=>by obtain⟨v,rfl,h⟩:=aG h;exact O5 (d.E b X r _ k h)
 W:=λb X r e g k _ h=>bR (d.E b X r _ k (aE h).2)
 G:=λb X r e k h=>⟨a,rfl,d.E b X r _ k h⟩
theorem Rn (f:Sd Κ Φ c)(g:Sd Κ Φ a)(i:Sd Κ Φ b):Sd Κ Φ (.jO c a b):=Sd.x (λd X r e k h=>by obtain⟨v,j,l⟩:=aG h;obtain⟨p,rfl⟩:=QV j;obtain⟨m,n,o⟩:=aP l;exact OU (f.T d X r _ k m).1 (g.E d X r _ k n) (i.E d X r _ k o)) rfl
theorem Ro (c:Sd Κ Φ a):Sd Κ Φ (.tup a):=Sd.x (λd X r e k h=>by obtain⟨v,f,g⟩:=aG h;obtain⟨_,_,rfl⟩:=AA f;obtain⟨i,b⟩:=aE g;exact OV (c.A d X r _ k b) λj l e=>by rw[yI Κ Φ b j l e];exact CA (ye i)) rfl
theorem Rp (c:Sd Κ Φ a):Sd Κ Φ (.lst a):=Sd.x (λd X r e k h=>by obtain⟨v,f,g⟩:=aG h;obtain⟨_,rfl⟩:=DN f;obtain⟨i,b⟩:=aE g;exact OW (c.A d X r _ k b) λj l e=>by rw[yI Κ Φ b j l e];exact CA (ye i)) rfl
theorem Rq (f:Sd Κ Φ a)(g:Sd Κ Φ b):Sd Κ Φ (.rep a b):=Sd.x (λc X r e k h=>by obtain⟨⟨x,o,y⟩,i,j⟩:=aG h;obtain⟨p,rfl⟩:=DM i;obtain⟨l,m⟩:=aE j;obtain⟨es,n,q⟩:=aG m;obtain⟨lp,rfl⟩:=DN n;cases ye l;obtain⟨s,d,t⟩:=aP q;exact QE (f.A c X r _ k d) (g.E c X r _ k t) λu v e=>by rw[yI Κ Φ d u v e];exact CA (ye s)) rfl
theorem Rr:Sd Κ Φ .eA:=Sd.x (λi X r e k h=>by obtain⟨⟨a,b⟩,c,d⟩:=aG h;obtain⟨_,rfl⟩:=yE c;obtain⟨f,g⟩:=aE d;cases fJ f;cases fJ g;exact OX) rfl
theorem DU (d:Sd Κ Φ a)(f:Sd Κ Φ b):Sd Κ Φ (.ix a b):=Sd.x (λc X r e k h=>by obtain⟨v,g,i⟩:=aG h;obtain⟨_,rfl⟩:=uW g;obtain⟨j,l,m⟩:=aP i;exact d_ix k.hu j (d.E c X r _ k l) (f.E c X r _ k m)) rfl
theorem DV {c:C}(d:Sd Κ Φ a)(f:Sd Κ Φ c)(g:Sd Κ Φ j):Sd Κ Φ (.sl a c j):=Sd.x (λb X r e k h=>by obtain⟨⟨x,i⟩,m,n⟩:=aG h;obtain⟨_,rfl⟩:=uW m;obtain⟨⟨l,u,s⟩,hs,o⟩:=aG n;obtain⟨_,rfl⟩:=QW hs;obtain⟨p,q,t,v⟩:=bE o;cases gk.mp p;exact d_sl (d.E b X r _ k q) (f.O b X r _ k t) (g.O b X r _ k v)) rfl
theorem Rt (i:Sd Κ Φ args):Sd Κ Φ (.call j f args):=Sd.x (λl X r e k h=>by
 obtain⟨⟨x,es⟩,n,o⟩:=aG h;obtain⟨_,_,rfl⟩:=gR n;obtain⟨a,p,q,b,s⟩:=dG o;obtain⟨y,es,rfl⟩:=uU s;obtain⟨h0,a⟩:=aE a;cases yh a;obtain⟨g1,g2⟩:=k.gl p;obtain⟨m,kk,ps,t,u,v⟩:=k.fns j _ _ (yh q);refine PE.imp (zrk v (k.room h0) u (i.A l X r _ k b) (sG b) g1 g2 (yI Κ Φ b)) λz H Q g=>?_
 have w:aF Κ Φ (.call j x args)=λc=>cW Κ Φ args c>>=λd=>m (d.map (·.2))>>=λr=>.ok (gJ r.2 (iX r.1),r.2):=by
  funext c
  show(cW Κ Φ args c>>=λd=>match Φ[j]? with|some m=>m (d.map (·.2))>>=λr=>.ok (gJ r.2 (iX r.1),r.2)|none=>.no)=_;rw[t]
 rw[w]at g;exact g) rfl
theorem DW (m:Sd Κ Φ args):Sd Κ Φ (.bi f args):=Sd.x (λn X r e k h=>by
 obtain⟨⟨x,es⟩,o,p⟩:=aG h;obtain⟨_,_,rfl⟩:=gR o;obtain⟨a,q,c,b,s⟩:=dG p;obtain⟨y,es,rfl⟩:=uU s;have a:=yh a;obtain⟨d,g,i,j⟩:=k.blt q;obtain⟨c,l⟩:=aE c;have hf:=cn.mp c;have ha:=m.A n X r _ k b;simp at hf;rcases hf with rfl|rfl|rfl
 .exact d_cB HM g (by rw[a];decide+kernel) ha (sG b) d j i
 .exact d_cB (O6 (k.calm (DQ l rfl))) g (by rw[a];decide+kernel) ha (sG b) d j i
 .exact ztf Qq g (by rw[a];decide+kernel) ha (sG b) d j i) rfl
theorem Rv {f:String}(o:Sd Κ Φ a):Sd Κ Φ (.gB f a):=Sd.x (λp X r e k h=>by
 obtain⟨⟨x,C⟩,q,s⟩:=aG h;obtain⟨_,_,rfl⟩:=gR q;obtain⟨t,u,n,v⟩:=bE s;obtain⟨y,w,z⟩:=aG v;obtain⟨A,B⟩:=aE z;cases eK w;have c:=yh t;obtain⟨d,g,i,j⟩:=k.blt u;obtain⟨a,rfl,l⟩:=o.G p X r _ k B;have m:=cE A;obtain⟨n,b⟩:=aE n;have hf:f∈rS:=cn.mp n;simp only[rS,au,nq,or_false]at hf;rcases hf with rfl|rfl|rfl|rfl|rfl
 .exact zin PM g (by rw[c];decide+kernel) m l d j i
 .exact zc0 (PR (k.calm b)) g (by rw[c];decide+kernel) m l d j i
 .exact zc0 (PN (k.calm b)) g (by rw[c];decide+kernel) m l d j i
 .exact zc0 (Qg (k.calm b)) g (by rw[c];decide+kernel) m l d j i
 .exact zin (Qb (k.calm b)) g (by rw[c];decide+kernel) m l d j i) rfl
theorem Rw (c:Sd Κ Φ a):Sd Κ Φ (.isT a ts):=Sd.x (λd X r e k h=>by obtain⟨⟨x,es⟩,f,g⟩:=aG h;obtain⟨_,_,rfl⟩:=gR f;obtain⟨i,j,l⟩:=aP g;obtain⟨⟨y,t⟩,m,n⟩:=aG l;obtain⟨o,p,q⟩:=aP n;obtain⟨T,s,u⟩:=aG q;cases DO m;cases eK s;cases yh i;obtain⟨g1,g2,g3,C⟩:=k.blt j;obtain⟨D,F,rfl,rfl,v,b⟩:=Q3 u;obtain⟨w,z,A,B⟩:=k.blt v;exact zwe g2 g1 z (Q4 b) w B A b (cE o) (c.E d X r _ k p)) rfl
theorem DX (f:Sd Κ Φ a)(g:Sd Κ Φ args):Sd Κ Φ (.mt m a args):=Sd.x (λc X r e k h=>by
 obtain⟨⟨x,n,i,b⟩,j,l⟩:=aG h;obtain⟨w,z,rfl,hb⟩:=lP j;obtain⟨h0,o,d,p⟩:=bE l;obtain⟨q,s,t,u,v⟩:=dG h0;obtain⟨y,i,rfl⟩:=uU p;cases yh q;have hm:=cn.mp s;simp at hm;rcases hm with rfl
 .exact d_mt PySem.F.plainAttrs_dict PySem.F.slot_dict_get PySem.F.type_dict_get (Pm k.hu) (λ_ _ _ _ _ _ r e=>Pn r e) (f.E c X r _ k o) (g.A c X r _ k d) t (sG d) (ye v) (hb.symm.trans u)) rfl
theorem Rx (ic:Sd Κ Φ c)(k:Cok Γ Κ Φ X n)(h:xS (xT c) (λt=>eB Γ c t) ifs=Z7):nJ X ifs (dR X.K (cP Κ Φ c)):=by
 cases ifs with
 |nil=>
  have:c=.nil:=by cases c<;>first|exact ff rfl h|rfl
  subst this;refine λpins s σ H Q I q=>Hu pins s σ H Q I ?_;obtain⟨ρ,F,b,so,e,q⟩:=q;cases e;exact q H (Same.refl H)
 |cons t r=>obtain⟨h1,h2⟩:=aE h;cases fJ h1;exact Hv (ic.T Γ X n t k h2).1
theorem sC {c:C}(w:Sd Κ Φ it)(y:Sd Κ Φ c)(z:Sd Κ Φ f)(k:Cok l Κ Φ X r)(h:chkE l (.comp p A j q it c f) e=Z7):
  ∃el t i d a pos,e=.ListComp el [⟨t,i,d,0⟩] a pos/\BlkScope X a j p A/\(∀i∈tgIx q,i<p)/\PI X t i (tDW X.K (evW Κ Φ it))/\(∀C b s H,PG (blk X a j C b s H) t (tDG X.K q))/\(∀C b s H,nJ (blk X a j C b s H) d (dR X.K (cP Κ Φ c)))/\(∀C b s H,PE (blk X a j C b s H) el (tD X.K (aF Κ Φ f)))/\(∀x,im i X.env x=pure x)/\l.cm=true:=by
 obtain⟨⟨el,O,a⟩,B,g⟩:=aG h;obtain⟨pos,rfl⟩:=yG B;obtain⟨⟨t,i,d,kk⟩,D,g⟩:=aG g;cases eK D;obtain⟨h0,u,F,G,g⟩:=dG g;obtain⟨m,I,J,L,M⟩:=dG h0;obtain⟨n,m⟩:=aE m;cases yh m;have v:=Ht k.hN k.hs J;have o:=λC b s H=>k.blk v.kind (ye M) C b s H;exact⟨el,t,i,d,a,pos,rfl,v,λi N=>ye ((cx.mp I) i N),w.W l X r _ t k (aE u).2 F,λC b s H=>uX (o C b s H) (aE u).1,λC b s H=>Rx y (o C b s H) G,λC b s H=>z.E _ _ r _ (o C b s H) g,sF L _,n⟩
theorem Ry {cond:C}(ii:Sd Κ Φ it)(ic:Sd Κ Φ cond)(ie:Sd Κ Φ elt):Sd Κ Φ (.comp nt js N' tg it cond elt):=Sd.x (λΓ X r e k h=>by obtain⟨el,t,i,ifs,scope,pos,rfl,hB,h2,hi,hg,ht,he,hs,jZ⟩:=sC ii ic ie k h;exact(zdz (k.calm jZ) hB h2 hi hg ht he hs).1) rfl
theorem RA (h:((rR e).any λm=>iY (fX f i) m.1&&(m.2.1==("items":Str))&&m.2.2.1.isEmpty&&m.2.2.2)=Z7):∃x p a c,e=.Call (.Attribute (.Name x p) "items" a) [] [] c/\fX f i x=Z7/\(a.endLine==c.line)=true:=by obtain⟨⟨x,n,es,b⟩,g,j⟩:=aG h;obtain⟨a,c,rfl,hb⟩:=lP g;obtain⟨d,k,l,o⟩:=bE j;obtain⟨y,p,rfl,d⟩:=gT d;cases yh k;cases fJ l;exact⟨y,p,a,c,rfl,d,hb.symm.trans o⟩
theorem RB:Sd Κ Φ (.sortI i):=Sd.x (λz X r e k h=>by obtain⟨⟨x,es⟩,c,d⟩:=aG h;obtain⟨_,_,rfl⟩:=gR c;obtain⟨a,f,g⟩:=aP d;obtain⟨y,j,l⟩:=aG g;cases eK j;obtain⟨A,B,C,D,rfl,m,n⟩:=RA l;obtain⟨b,a⟩:=aE a;cases yh a;obtain⟨o,p,q,s⟩:=k.blt f;obtain⟨t,u,v,w⟩:=k.aH m;exact zlk (k.calm b) p (by show db ("sorted":Str)=_;decide+kernel) o s q t u v w n) rfl
theorem RC {b:Bool}:Sd Κ Φ (.jP b x):=Sd.x (λP X r e k h=>by obtain⟨⟨f,es⟩,j,l⟩:=aG h;obtain⟨_,_,rfl⟩:=gR j;obtain⟨m,o,p⟩:=aP l;obtain⟨⟨Q,R⟩,q,s⟩:=aG p;cases DO q;obtain⟨⟨n,c⟩,t,w⟩:=aG s;obtain⟨d,g⟩:=aE w;obtain⟨S,T,hn,d⟩:=gT d;obtain⟨C,U,y,g⟩:=gT g;cases hn;cases y;obtain⟨a1,a2,a3,a4⟩:=bE d;obtain⟨z,B,D⟩:=aP g;cases yh m;cases yh a1;cases yh z;obtain⟨g1,g2,g3,V⟩:=k.blt o;obtain⟨E,F⟩:=k.gl B;obtain⟨a,W,Y,G,H,I,i⟩:=k.xc n c t;obtain⟨A,v,u,J,xa,K,L,M,N,O⟩:=k.xk.sub c x b D;rw[J]at i;cases i;exact zvj g2 g1 G (k.hs▸yh a2) (cE a3) H I E O M N F xa K L) rfl
theorem RD:Sd Κ Φ .nil where
 E:=λ_ _ _ _ _ h=>ff rfl h
 T:=λ_ _ _ _ _ h=>ff rfl h
 Q:=λ_ _ _ _ _ _ _ _ h=>ff rfl h
 A:=λa X r es k h=>by cases fJ h;exact HJ
 O:=λa X r e k h=>by cases gk.mp h;exact C8
 W:=λ_ _ _ _ _ _ _ h=>ff rfl h
 G:=λ_ _ _ _ _ h=>ff rfl h
theorem RE (d:Sd Κ Φ a)(f:Sd Κ Φ b):Sd Κ Φ (.cons a b) where
 E:=λ_ _ _ _ _ h=>ff rfl h
 T:=λ_ _ _ _ _ h=>ff rfl h
 Q:=λ_ _ _ _ _ _ _ _ h=>ff rfl h
 A:=λc X r es k h=>by
  cases es with
  |nil=>cases h
  |cons e es=>obtain⟨g,i,j⟩:=aP h;exact C5 (cE g) (d.E c X r _ k i) (f.A c X r _ k j)
 O:=λ_ _ _ _ _ h=>ff rfl h
 W:=λ_ _ _ _ _ _ _ h=>ff rfl h
 G:=λ_ _ _ _ _ h=>ff rfl h
theorem RF (f:Sd Κ Φ a):Sd Κ Φ (.iM a) where
 E:=λ_ _ _ _ _ h=>ff rfl h
 T:=λ_ _ _ _ _ h=>ff rfl h
 Q:=λ_ _ _ _ _ _ _ _ h=>ff rfl h
 A:=λ_ _ _ _ _ h=>ff rfl h
 O:=λ_ _ _ _ _ h=>ff rfl h
 W:=λg X r e q k _ h=>by
  obtain⟨⟨x,d⟩,i,j⟩:=aG h;obtain⟨_,_,rfl⟩:=gR i;obtain⟨l,m,b,c⟩:=bE j;obtain⟨c,n⟩:=aE c;cases yh l;obtain⟨o,p,s,t⟩:=k.blt m;rcases d with _|⟨x,_|⟨y,d⟩⟩
  .cases c
  .exact Pb p o (cE ((cx.mp (sG b)) x (.head _))) (f.A g X r _ k b) (yI Κ Φ b)
  .exact absurd (ye n) (Nat.not_le.mpr (Nat.succ_lt_succ (Nat.succ_pos _)))
 G:=λ_ _ _ _ _ h=>ff rfl h
theorem DY (h:isTup e=Z7):∃a b c,e=.Tuple a b c:=by cases e<;>first|exact ff rfl h|exact⟨_,_,_,rfl⟩
theorem IX (h:iP Γ (.enum a) e=Z7):∃y q p,e=.Call (.Name "enumerate" q) [y] [] p/\bX Γ "enumerate"=Z7/\isStar y=Z6/\chkE Γ a y=true:=by obtain⟨⟨x,es⟩,hv,h9⟩:=aG h;obtain⟨q,p,rfl⟩:=gR hv;obtain⟨h1,h2,h3⟩:=aP h9;obtain⟨y,hy,h3⟩:=aG h3;cases eK hy;cases yh h1;exact⟨y,q,p,rfl,h2,cE (aE h3).1,(aE h3).2⟩
theorem IY (h:iP Γ (.zip a b) e=Z7):∃y z q p,e=.Call (.Name "zip" q) [y,z] [] p/\bX Γ "zip"=Z7/\isStar y=Z6/\isStar z=Z6/\chkE Γ a y=Z7/\chkE Γ b z=true:=by obtain⟨⟨x,es⟩,f,g⟩:=aG h;obtain⟨q,p,rfl⟩:=gR f;obtain⟨i,j,c⟩:=aP g;obtain⟨⟨y,z⟩,k,c⟩:=aG c;cases DO k;cases yh i;obtain⟨d,l,m⟩:=aP c;exact⟨y,z,q,p,rfl,j,cE (aE d).1,cE (aE d).2,l,m⟩
theorem RG (b:Sd Κ Φ a):Sd Κ Φ (.enum a) where
 E:=λ_ _ _ _ _ h=>ff rfl h
 T:=λ_ _ _ _ _ h=>ff rfl h
 Q:=λ_ _ _ _ _ _ _ _ h=>ff rfl h
 A:=λ_ _ _ _ _ h=>ff rfl h
 O:=λ_ _ _ _ _ h=>ff rfl h
 W:=λc X r e j k d h=>by obtain⟨y,q,p,rfl,f,g,i⟩:=IX h;obtain⟨_,_,_,rfl⟩:=DY d;obtain⟨g1,g2,g3,l⟩:=k.blt f;exact Au g2 g1 g (b.E c X r _ k i)
 G:=λ_ _ _ _ _ h=>ff rfl h
theorem RH (d:Sd Κ Φ a)(f:Sd Κ Φ b):Sd Κ Φ (.zip a b) where
 E:=λ_ _ _ _ _ h=>ff rfl h
 T:=λ_ _ _ _ _ h=>ff rfl h
 Q:=λ_ _ _ _ _ _ _ _ h=>ff rfl h
 A:=λ_ _ _ _ _ h=>ff rfl h
 O:=λ_ _ _ _ _ h=>ff rfl h
 W:=λc X r e s k ht h=>by obtain⟨y,z,q,p,rfl,g,i,j,l,m⟩:=IY h;obtain⟨n,o,t,u⟩:=k.blt g;exact DI ht o n i j (d.E c X r _ k l) (f.E c X r _ k m)
 G:=λ_ _ _ _ _ h=>ff rfl h
theorem RI (b:oR c=0)(hn:∀a e,chkE a c e=Z6):Sd Κ Φ c:=Sd.x (λa X r e k h=>ff (hn a e) h) b
theorem all (c:C):Sd Κ Φ c:=by
 induction c with
 |var=>exact Rb
 |non=>exact Rc
 |bl=>exact DR
 |int=>exact Rf
 |str=>exact Rg
 |bin _ _ _ a b=>exact Rh a b
 |cmp _ _ _ a b=>exact Ri a b
 |and _ _ a b=>exact Rj a b
 |or _ _ a b=>exact DS a b
 |not _ a=>exact Rk a
 |jO _ _ _ d a b=>exact Rn d a b
 |tup _ a=>exact Ro a
 |lst _ a=>exact Rp a
 |eA=>exact Rr
 |ix _ _ a b=>exact DU a b
 |sl _ _ _ a b d=>exact DV a b d
 |call _ _ _ a=>exact Rt a
 |bi _ _ a=>exact DW a
 |gB _ _ a=>exact Rv a
 |isT _ _ a=>exact Rw a
 |mt _ _ _ a b=>exact DX a b
 |comp _ _ _ _ _ _ _ a b d=>exact Ry a b d
 |sortI=>exact RB
 |iM _ a=>exact RF a
 |rep _ _ a b=>exact Rq a b
 |enum _ a=>exact RG a
 |zip _ _ a b=>exact RH a b
 |tv _ a=>exact DT a
 |jP=>exact RC
 |nil=>exact RD
 |cons _ _ a b=>exact RE a b
 |_=>exact RI rfl λ_ _=>rfl
end
section
variable (Κ:List D)(Φ:List Fn)
theorem uY:l7 (.ListComp el a s p) (Z9 (.Name t px)) n env=pure (env.blockKind==.function&&env.kindOf t==Z9 .local&&px.line==p.line&& !(s.names.any λ(n,k)=>n==t&&(k==.local||k==.cell))):=rfl
theorem IZ (hn:jV c=Z6)(h:chkE i c (.ListComp el j s p)=Z7):∃d e f g it a b,c=.comp d e f g it a b:=by cases c<;>first|exact ff rfl h|exact⟨_,_,_,_,_,_,_,rfl⟩|(cases hn;done)
theorem Ja (h:chkE a c (.SetComp el b s p)=Z7):False:=by cases c<;>exact ff rfl h
theorem Jb (h:chkE b c (.DictComp el a d s p)=Z7):False:=by cases c<;>exact ff rfl h
theorem DZ (k:Cok f Κ Φ X r)(J:jU f i x=Z7)(hn:jV c=Z6)(a:chkE f c v=Z7):PS X (.Assign [.Name x px] v pos) (tDS X.K λu=>aF Κ Φ c u>>=λx=>.ok (.nx (u.set i (Z9 (z1r x))))):=by
 obtain⟨h,w,j⟩:=k.loc J;have nd:X.N.Nodup:=k.hN▸k.nd;cases y:z1j v with
 |false=>exact zne nd h w j (rH y _ _ _) ((all c).E f X r _ k a)
 |true=>
  cases v<;>first|(cases y;done)|skip
  .rename_i P R s p;cases g:(X.env.blockKind==.function&&X.env.kindOf x==Z9 .local&&px.line==p.line&& !(s.names.any λ(n,k)=>n==x&&(k==.local||k==.cell)))with
   |false=>exact zne nd h w j (by rw[uY,g]) ((all c).E f X r _ k a)
   |true=>
    obtain⟨S,T,U,V,it,b,l,rfl⟩:=IZ hn a;obtain⟨L,t,W,M,m,A,e,B,h0,C,F,G,I,hs,d⟩:=sC (all it) (all b) (all l) k a;cases e;have O:X.env.scope.names.lookup x=Z9 .local:=by simp at g;exact g.1.1.2
    exact PS.imp (z4s (k.calm d) nd h O j.2 B C F G I (by rw[uY,g]) hs) λD o H q=>HY (λo H Q z=>(zdz (pos:=p) (k.calm d) B h0 C F G I hs).2 o H Q z) D o H q
  .exact(Ja a).elim
  .exact(Jb a).elim
theorem RJ (k:Cok e Κ Φ X r)(hh:xW e c t j=Z7):PI X t j (tDF X.K (evF Κ Φ c))/\pM j=true:=by
 obtain⟨ht,h⟩:=aE hh;have hw:=(all c).W e X r j t k ht h;cases c with
 |tv a=>
  have f:=PI.Ib (k:=λd=>lF Κ Φ (.tv a) d) (Dt ((all a).E e X r _ k (aE h).2)) (Ia hw);refine⟨?_,(aE h).1⟩;cases a with
  |var i=>obtain⟨x,p,rfl,g⟩:=gT (aE h).2;obtain⟨u,w,A,B⟩:=k.aH g;exact PI.Ib (Pw u w A B) f
  |_=>exact f
 |enum a=>obtain⟨y,q,p,rfl,g,l,m⟩:=IX h;obtain⟨_,_,_,rfl⟩:=DY ht;obtain⟨n,o,C,D⟩:=k.blt g;exact⟨QD o n l ((all a).E e X r _ k m),rfl⟩
 |zip a b=>
  obtain⟨y,z,q,p,rfl,g,l,m,F,G⟩:=IY h;obtain⟨n,o,C,D⟩:=k.blt g
  have H:evF Κ Φ (.zip a b)=λd=>(aF Κ Φ a d>>=λx=>aF Κ Φ b d>>=λy=>Res.ok [x,y])>>=λs=>nZ s d:=by
   funext d
   show((aF Κ Φ a d>>=λx=>(aF Κ Φ b d>>=λy=>Res.ok [y])>>=λI=>Res.ok (x::I))>>=λs=>nZ s d)=_;cases aF Κ Φ a d with
   |ok x=>cases aF Κ Φ b d<;>rfl
   |exc=>rfl
   |no=>rfl
  rw[H];exact⟨QC ht o n l m ((all a).E e X r _ k F) ((all b).E e X r _ k G),rfl⟩
 |iM a=>refine⟨Ia hw,?_⟩;obtain⟨v,J,_⟩:=aG h;obtain⟨_,_,rfl⟩:=gR J;rfl
 |_=>exact ff rfl h
theorem RK (h:isTup v=Z6):uw [.Tuple a b c] v env=pure none:=by cases v<;>first|rfl|(cases h;done)
theorem lQ (h:uK s=Z9 v):∃p,s=.Assign v.1 v.2 p:=bS (q:=λv=>∃p,s=.Assign v.1 v.2 p) h (by cases s<;>first|exact .inl rfl|exact .inr ⟨_,rfl,_,rfl⟩)
theorem lR (h:uL s=Z9 v):∃p,s=.Expr v p:=bS (q:=λv=>∃p,s=.Expr v p) h (by cases s<;>first|exact .inl rfl|exact .inr ⟨_,rfl,_,rfl⟩)
theorem yK (h:CO s=Z9 v):∃p,s=.Return v p:=bS (q:=λv=>∃p,s=.Return v p) h (by cases s<;>first|exact .inl rfl|exact .inr ⟨_,rfl,_,rfl⟩)
theorem yL (h:CP s=Z9 v):∃p,s=.If v.1 v.2.1 v.2.2 p:=bS (q:=λv=>∃p,s=.If v.1 v.2.1 v.2.2 p) h (by cases s<;>first|exact .inl rfl|exact .inr ⟨_,rfl,_,rfl⟩)
theorem oS (h:xX s=Z9 v):∃p,s=.For v.1 v.2.1 v.2.2.1 v.2.2.2 p:=bS (q:=λv=>∃p,s=.For v.1 v.2.1 v.2.2.1 v.2.2.2 p) h (by cases s<;>first|exact .inl rfl|exact .inr ⟨_,rfl,_,rfl⟩)
structure Ss (s:S):Prop where
 R:∀(Γ:Gm) (X:Cx) (r:Nat) (st:Stmt),Cok Γ Κ Φ X r->ji (model X.prog X.w) X.A X.env X.xe->oI Γ s st=Z7->PS X st (tDS X.K (aW Κ Φ s))
 L:∀(Γ:Gm) (X:Cx) (r:Nat) (st:List Stmt),Cok Γ Κ Φ X r->ji (model X.prog X.w) X.A X.env X.xe->chkL Γ s st=Z7->PSs X st (tDS X.K (aW Κ Φ s))
def D4:S->Bool
 |.nil=>Z6
 |.seq _ _=>Z6
 |_=>Z7
variable {Κ:List D}{Φ:List Fn}
theorem Ss.x (h:∀Γ X r st,Cok Γ Κ Φ X r->ji (model X.prog X.w) X.A X.env X.xe->oI Γ s st=Z7->PS X st (tDS X.K (aW Κ Φ s)))(a:D4 s=Z7):Ss Κ Φ s:=⟨h,by cases s<;>first|(cases a;done)|exact λ_ _ _ _ _ _ h=>ff rfl h⟩
theorem RL:Ss Κ Φ (.asg t e):=Ss.x (λd X r st k w h=>by
 obtain⟨⟨z,v⟩,f,g⟩:=aG h;obtain⟨p,rfl⟩:=lQ f;obtain⟨x,j,l⟩:=aG g;cases eK j;obtain⟨a,m,n,c⟩:=bE l;cases t with
 |nm i=>obtain⟨y,q,rfl,o⟩:=gT a;exact DZ Κ Φ k o (cE m) c
 |tp is=>obtain⟨s,u⟩:=aE n;obtain⟨es,b,_⟩:=aG (aE a).2;obtain⟨_,_,rfl⟩:=AA b;exact zpk (uX k a) ((all e).E d X r _ k c) ((show uu [_] _ _ _=l7 _ _ _ _ from rfl).trans (rH (cE s) _ _ _)) (RK (cE u)) rfl) rfl
theorem RM:Ss Κ Φ (.dW i a b):=Ss.x (λc X r st k B h=>by obtain⟨⟨C,v⟩,d,e⟩:=aG h;obtain⟨p,rfl⟩:=lQ d;obtain⟨x,hx,f⟩:=aG e;cases eK hx;obtain⟨⟨y,D⟩,g,j⟩:=aG f;obtain⟨_,rfl⟩:=uW g;obtain⟨l,F,m,n,o⟩:=dG j;obtain⟨z,q,rfl,s⟩:=gT l;obtain⟨t,u,w,A⟩:=k.aH s;exact zv1 k.hu t u w A (cE m) ((all a).E c X r _ k n) ((all b).E c X r _ k o)) rfl
theorem zug:Ss Κ Φ (.mut m i args):=Ss.x (λd X r st k F h=>by obtain⟨c,e,f⟩:=aG h;obtain⟨p,rfl⟩:=lR e;obtain⟨⟨x,n,es,b⟩,hm,g⟩:=aG f;obtain⟨G,H,rfl,j⟩:=lP hm;obtain⟨h0,l,a⟩:=aP g;obtain⟨o,s,t,u,v⟩:=dG h0;obtain⟨z,q,rfl,w⟩:=gT o;obtain⟨y,es,rfl⟩:=uU l;cases yh s;have hm:=cn.mp t;simp at hm;obtain⟨B,C,D,E⟩:=k.aH w;subst hm;exact zfh B C D E ((all args).A d X r _ k a) (sG a) (ye v) (j.symm.trans u)) rfl
theorem RN:Ss Κ Φ (.drop e):=Ss.x (λa X r st k g h=>by obtain⟨v,b,c⟩:=aG h;obtain⟨p,rfl⟩:=lR b;obtain⟨d,f⟩:=aE c;exact Pt (cE d) ((all e).E a X r _ k f)) rfl
theorem RO:Ss Κ Φ (.ret e):=Ss.x (λb X r st k s h=>by
 obtain⟨o,c,d⟩:=aG h;obtain⟨p,rfl⟩:=yK c;obtain⟨v,rfl,a⟩:=aG d;have g:=(all e).E b X r _ k a;cases e with
 |var i=>obtain⟨x,q,rfl,f⟩:=gT a;obtain⟨j,l,m,n⟩:=k.aH f;exact zoh j l m n
 |_=>exact Pr g) rfl
theorem D5 (f:Ss Κ Φ a)(g:Ss Κ Φ b):Ss Κ Φ (.ifS c a b):=Ss.x (λd X r st k e h=>by obtain⟨v,i,j⟩:=aG h;obtain⟨p,rfl⟩:=yL i;obtain⟨l,m,n⟩:=aP j;exact Di ((all c).T d X r _ k l).1 (f.L d X r _ k e m) (g.L d X r _ k e n)) rfl
theorem RP (d:Ss Κ Φ b):Ss Κ Φ (.bC t it b):=Ss.x (λe X r st k c h=>by obtain⟨a,h⟩:=aE h;obtain⟨⟨t,i,B,o⟩,f,g⟩:=aG h;obtain⟨p,rfl⟩:=oS f;obtain⟨j,l,m,n⟩:=bE g;cases fJ n;obtain⟨hf,hn⟩:=RJ Κ Φ k l;exact ztq c (k.calm a) hf (uX k j) (d.L e X r _ k c m) (sF hn _)) rfl
theorem Cok.iQ {C:Addr}(k:Cok b Κ Φ X r)(nd:(b.N.set i "").Nodup)(hc:d.cls=.ref C)(hm:X.mg c=Z9 (.ref C)):Cok {b with N:=b.N.set i "",cm:=Z6,xc:=Z9 (n,c),fns:=[]} Κ Φ (Mi.iQ X i n a d) r where
 hN:=by show X.N.set i ""=b.N.set i "";rw[k.hN]
 hs:=k.hs
 nd:=nd
 fn:=k.fn
 kind:=k.kind
 free:=k.free
 fns:=λj f n e=>by simp at e
 cst:=k.cst
 mJ:=λj f n e=>by simp at e
 room:=λz=>by cases z
 calm:=λz=>by cases z
 hu:=k.hu
 jY:=k.jY
 yH:=λz=>by cases z
 xc:=λg h z=>by cases z;exact⟨a,d,C,rfl,λ_ _ _ _ I=>(I.pin (a,d) (bz _ bb)).1,hc,hm⟩
 xk:=⟨k.xk.sub,k.xk.rs,k.xk.fG⟩
theorem D6 (e:CS h=Z9 v):∃a b,h=.ExceptHandler (Z9 (.Name v.1 a)) (Z9 v.2.1) v.2.2 b:=by
 unfold CS at e;split at e
 .cases e;exact⟨_,_,rfl⟩
 .cases e
theorem yM (e:xY s=Z9 v):∃a b pos,s=.Raise (Z9 (.Call (.Name v.1 a) v.2 [] b)) Z8 pos:=by
 unfold xY at e;split at e
 .obtain⟨q,p,rfl⟩:=gR e;exact⟨_,_,_,rfl⟩
 .cases e
theorem Jc (s:S):Ss Κ Φ s:=by
 induction s with
 |nil=>exact⟨λ_ _ _ _ _ _ h=>ff rfl h,λc X r st k d h=>by cases fJ h;exact Po⟩
 |seq a b i f=>
  refine⟨λ_ _ _ _ _ _ h=>ff rfl h,λc X r st k d h=>?_⟩;cases st with
  |nil=>cases h
  |cons s st=>exact Pp (i.R c X r _ k d (aE h).1) (f.L c X r _ k d (aE h).2)
 |bad=>
  refine Ss.x (λc X r st k d h=>?_) rfl
  rintro g s l H D I ⟨m,F,j,so,e,_⟩
  cases e
 |asg=>exact RL
 |nO=>
  refine Ss.x (λc X r st k d h=>?_) rfl
  rintro g s l H D I ⟨m,F,j,so,e,_⟩
  cases e
 |dW=>exact RM
 | «mut»=>exact zug
 |drop=>exact RN
 |ret=>exact RO
 |ifS _ _ _ i f=>exact D5 i f
 |bC _ _ _ f=>exact RP f
theorem sL (Κ:List D)(Φ:List Fn)(s:S):∀a X r st,Cok a Κ Φ X r->ji (model X.prog X.w) X.A X.env X.xe->chkL a s st=Z7->PSs X st (tDS X.K (aW Κ Φ s)):=(Jc s).L
end
section
variable (Κ:List D)(Φ:List Fn)
variable {Κ Φ}
theorem RQ (h:CQ e=Z7):∃z k p,e=.Constant (.str z) k p:=by obtain⟨c,hc,h⟩:=aG h;obtain⟨k,p,rfl⟩:=uV hc;cases c<;>first|(cases h;done)|exact⟨_,_,_,rfl⟩
end
section
variable {P:cg}{w:World}{K:Z5}{mg:Str->Option Value}{base:Heap}
structure Dok (Γ:Gm)(Κ:List D)(Φ:List Fn)(P:cg)(w:World)(K:Z5)(mg:Str->Option Value)(base:Heap)(k:Nat):Prop where
 free:∀x,Γ.free.contains x=Z7->mg x=Z8
 fns:∀(j:Nat) f n,Γ.fns[j]?=Z9 (f,n)->∃m k' ps,Φ[j]?=Z9 m/\k'<=k/\Cal P w K mg base k' f ps (spD K n m)
 cst:∀(j:Nat) x,Γ.cst[j]?=Z9 x->∃d a,Κ[j]?=Z9 d/\mg x=Z9 (.ref a)/\∀H B,B Z8->Rep K H B (.ref a) d
 mJ:∀(j:Nat) f n,Γ.fns[j]?=Z9 (f,n)->∃m k' ps,Φ[j]?=Z9 m/\k'<=k/\lN P w K mg base k' f ps n m
 xk:pR Γ K mg
theorem RS (r:aD K H A f b):StOk K ⟨H,λa=>H a=Z8\/A (Z9 a),λ_=>Z8,A Z8⟩ H (f.map Z9++bo (n-f.length) Z8) (b.map (λd=>Z9 (.od,d))++bo (n-b.length) Z8) where
 ext:=Same.refl H
 aH:=λa e=>.inl e
 own:=λa i e=>by cases e
 len:=by have:=r.length;simp;omega
 sl:=λi g d e=>by
  rw[oj]at e;split at e
  .rename_i j;rw[ar]at e;cases c:b[i]? with
   |none=>rw[c]at e;cases e
   |some m=>
    rw[c]at e;cases e;obtain⟨v,k,l⟩:=aD.get r c;refine⟨v,?_,?_⟩
    .rw[oj,ya (by rw[ae,r.length];rw[ae]at j;exact j),ar,k];rfl
    .refine(Rep.there _ l).weak λa h=>?_;cases a with
     |none=>exact h.1
     |some a=>exact⟨λz=>h.2 z,.inr h.1⟩
  .rw[fh]at e;split at e<;>cases e
theorem d_fn {st:Stmt}(C:Fun K x x st f fd)(i:FnScope Γ.N ps (z08 st))(hs:Γ.sc=z08 st)(R:Γ.blk=Z6)(j:Γ.xc=Z8)(c:Dok Γ Κ Φ P w K mg base k)(D:chkL Γ s (z0j st)=Z7):
  FnOk P w K mg base mG (k+1) f fd ps (spD K ps.length (aM Κ Φ Γ.N.length s)):=by
 refine C.ok i (λF H Q E h=>h.choose_spec.choose_spec.choose_spec.1) λl A outer G H F Q E u m=>?_;obtain⟨B,y,r,S,rs,e,q⟩:=m;refine⟨_,sL Κ Φ s Γ (gK mG P w K mg base Γ.N x (z08 st) f l A outer G H E).wG k _ ⟨rfl,hs.symm,i.nd,λ_ _=>rfl,by rw[hs];exact i.kind,c.free,c.fns,c.cst,c.mJ,λ_=>u,λ_=>rfl,u.units,λ_=>⟨rfl,rfl⟩,λ_ _ _ z=>(by cases z),λ_ _ z=>(by rw[j]at z;cases z),c.xk⟩ PassesOwn.never D,?_⟩;unfold aM at e;have so:=RS (n:=Γ.N.length) rs;generalize b:aW Κ Φ s (y.map (λd=>Z9 (.od,d))++bo (Γ.N.length-y.length) Z8)=p at e
 match p,b,e with
 |.ok (.nx I),b,e=>cases e;refine⟨_,_,_,so,b,λJ t T L U fr=>q .non t (λa o e=>(fr a o e rfl).1) rfl⟩
 |.ok (.rt g d),b,e=>
  cases e;refine⟨_,_,_,so,b,λv t M O=>q v t M (O.weak λa h=>?_)⟩;cases g with
  |fr=>cases a<;>exact h
  |nu=>cases a<;>exact h
  |od=>cases a with
   |none=>exact .inr h
   |some a=>exact h.elim .inl λz=>.inr z
  |al=>cases a with
   |none=>exact .inr h
   |some a=>exact h.elim .inl λz=>.inr z
 |.exc _,b,e=>cases e
 |.no,b,e=>cases e
theorem ztk {st:Stmt}(g:Fun K x x st f fd)(i:FnScope a.N ps (z08 st))(hs:a.sc=z08 st)(r:a.blk=Z6)(j:a.xc=Z8)(t:Dok a Κ Φ P w K mg base k)(hc:chkL a s (z0j st)=Z7):
  FnOk P w K mg base (CXE P w base) (k+1) f fd ps (IM K mg ps.length (aM Κ Φ a.N.length s)):=by
 obtain⟨oc,od,kV,l,u,an,m,ct,n,rfl,o,b⟩:=g.ex;refine zmv o b i (λp H Q E h=>h.choose_spec.choose_spec.choose_spec.1) λA outer v H p Q E hr d=>?_;obtain⟨B,y,c,z,rs,e,q⟩:=d;unfold aM at e;split at e<;>cases e
theorem RT {ns:List Int}(h:SqL K H a (ns.map V.int)):aD K H (λ_=>True) [.ref a] [.list (ns.map .int)]:=by
 refine⟨_,_,rfl,⟨a,ns.map V.int,rfl,?_,?_⟩,rfl⟩
 .rcases h with(h|h)|h
  .exact .inl ⟨h,trivial⟩
  .exact .inr ⟨.inl h,trivial⟩
  .exact .inr ⟨.inr h,trivial⟩
 .clear h
  induction ns with
  |nil=>rfl
  |cons n ns b=>exact⟨_,_,rfl,rfl,b⟩
end
structure Gd where
 kf:Nat
 args:C
 c:Str
 i:Nat
 j:Nat
 g:Str
 r:Bool
structure XR where
 c:Str
 cs:List (Str×Bool)
 B:Str
def XR.subs (r:XR):List (Str×Str×Bool):=(r.c,"ValueError",Z7)::r.cs.map λy=>(r.c,y.1,y.2)
def AB (K:Z5)(A:Addr):List (Str×Bool)->Prop
 | []=>True
 |y::l=>(∃D dd cd sl,Z1 K ce y.1=Z9 (Z9 (.ref D))/\K.lookup D=Z9 ⟨.type "type",dd,.cls cd,sl⟩/\Z0 K (.ref A) (.ref D)=Z9 y.2)/\AB K A l
structure Kx (K:Z5)(r:XR)(A D:Addr):Prop where
 a:Z1 K ce r.c=Z9 (Z9 (.ref A))
 l:∃dd cd sl,K.lookup A=Z9 ⟨.type "type",dd,.cls cd,sl⟩
 e:W.excIn K A [.type "ValueError",.type "Exception",.type "BaseException",.type "object"] "ValueError.__new__"=Z7
 cl:Z4 K (.ref A) "__class__"=Z9 (Z9 (.builtin "object.__class__"))
 ga:Z4 K (.ref A) "__getattribute__"=Z9 (Z9 (.builtin "BaseException.__getattribute__"))
 gt:Z4 K (.ref A) "__getattr__"=Z9 Z8
 ob:Z0 K (.ref A) (.type "object")=Z9 Z7
 be:Z0 K (.ref A) (.type "BaseException")=Z9 Z7
 v:Z0 K (.ref A) (.type "ValueError")=Z9 Z7
 b:Z1 K ce r.B=Z9 (Z9 (.ref D))
 f:W.excIn K D [.type "ValueError",.type "Exception",.type "BaseException",.type "object"] "ValueError.__new__"=Z7
 s:Z0 K (.ref A) (.ref D)=Z9 Z7
 cs:AB K A r.cs
def kxs (K:Z5):List XR->Prop
 | []=>True
 |r::l=>(∃A D,Kx K r A D)/\kxs K l
theorem AD {K:Z5}:∀{l:List XR} {r:XR},kxs K l->r∈l->∃A D,Kx K r A D
 | [],_,_,z=>nomatch z
 |_::_,_,h,.head _=>h.1
 |_::_,_,h,.tail _ z=>AD h.2 z
theorem Jd {K:Z5}:∀{l:List (Str×Bool)} {y:Str×Bool},AB K A l->y∈l->∃D a cd sl,Z1 K ce y.1=Z9 (Z9 (.ref D))/\K.lookup D=Z9 ⟨.type "type",a,.cls cd,sl⟩/\Z0 K (.ref A) (.ref D)=Z9 y.2
 | [],_,_,z=>nomatch z
 |_::_,_,h,.head _=>h.1
 |_::_,_,h,.tail _ z=>Jd h.2 z
theorem AE {K:Z5}{D:Addr}(l:K.lookup D=Z9 ⟨.type "type",a,.cls cd,sl⟩):W.typeIn K (.ref D)=Z9 (.type "type")/\(W.clsIn K D).isSome=true:=by
 constructor
 .show(K.lookup D).map (·.cls)=_;rw[l];rfl
 .unfold W.clsIn;rw[l];rfl
theorem RU {K:Z5}(X:K.In h)(G:h.Ns ce mg)(g:kxs K d)(o:d≠[]->mg "ValueError"=Z8)(p:i.sub=(d.map XR.subs).flatten)(t:i.rs=d.map (·.c))(u:i.fG=d.map λr=>(r.c,r.B)):pR i K mg:=by
 refine⟨λc C b z=>?_,λc z=>?_,λc B z=>?_⟩
 .rw[p]at z;obtain⟨l,x,z⟩:=List.mem_flatten.mp (cn.mp z);obtain⟨r,hr,rfl⟩:=av.mp x;obtain⟨A,D,k⟩:=AD g hr;obtain⟨M,cd,sl,j⟩:=k.l;have xa:XA K A:=⟨k.cl,k.ga,k.gt,k.ob,k.be,(AE j).1,(AE j).2,(Aw k.e).1⟩;rcases au.mp z with e|z
  .cases e;exact⟨A,.ty "ValueError",.type "ValueError",W.mg_of X G k.a,xa,XV.val,k.v,rfl,λw q=>q,.inr ⟨o (λq=>by rw[q]at hr;cases hr),by decide+kernel,by decide⟩⟩
  .obtain⟨y,E,e⟩:=av.mp z;cases e;obtain⟨m,F,H,I,J,n,L⟩:=Jd k.cs E;exact⟨A,.ref m,.ref m,W.mg_of X G k.a,xa,XV.own (AE n).1 (AE n).2,L,rfl,λw q=>q,.inl (W.mg_of X G J)⟩
 .rw[t]at z;obtain⟨r,hr,rfl⟩:=av.mp (cn.mp z);obtain⟨A,D,k⟩:=AD g hr;exact⟨A,W.mg_of X G k.a,k.e⟩
 .rw[u]at z;obtain⟨r,hr,e⟩:=av.mp (cn.mp z);cases e;obtain⟨A,D,k⟩:=AD g hr;exact⟨A,D,W.mg_of X G k.a,W.mg_of X G k.b,(Aw k.e).1,(Aw k.f).1,k.s⟩
inductive Kd where
 |n
 |e (c:Str) (r:Bool)
 |g (d:Gd) (je:Nat)
structure aK where
 nm:Str
 st:Stmt
 N:List Str
 ps:List Str
 free:List Str
 fns:List Nat
 s:S
 F:Fn
 kd:Kd
 kc:List (Str×List Str):=[]
def cD (y:Str×List Str):D:=.tuple (y.2.map .str)
def sig (Rs:List aK)(j:Nat):Str×Nat:=match Rs[j]? with
 |some c=>(c.nm,c.ps.length)
 |none=>("",0)
def fnAt (Rs:List aK)(j:Nat):Fn:=match Rs[j]? with
 |some c=>c.F
 |none=>λ_=>.no
def aK.G (Rs:List aK)(xt:List XR)(r:aK):Gm:={N:=r.N,sc:=z08 r.st,free:=r.free,fns:=r.fns.map (sig Rs),cst:=r.kc.map (·.1),sub:=(xt.map XR.subs).flatten,rs:=xt.map (·.c),fG:=xt.map λr=>(r.c,r.B)}
def Kd.jP:Kd->Bool
 |.e _ _=>Z7
 |_=>Z6
def nE (Rs:List aK)(j:Nat):Bool:=match Rs[j]? with
 |some c=>!c.kd.jP
 |none=>Z7
def aK.part (Rs:List aK)(xt:List XR)(i:Nat)(r:aK):Bool:=match r.kd with
 |.n=>chkL (r.G Rs xt) r.s (z0j r.st)
 |.e _ _=>Z6
 |.g _ _=>Z6
def aK.ok (Rs:List aK)(xt:List XR)(fr:List Str)(i:Nat)(r:aK):Bool:=
 (decide ((z08 r.st).kind=.function)&& !(z08 r.st).isCoroutine&& !(z08 r.st).isGenerator&&decide r.N.Nodup&&decide (r.N.take r.ps.length=r.ps))&&
 (r.ps.all (λx=>(z08 r.st).names.lookup x==Z9 .local||(z08 r.st).names.lookup x==Z9 .cell)&&(z08 r.st).names.all (λy=>!(y.2==.free))&&r.free.all (λx=>fr.contains x)&&r.fns.all (λj=>decide (j<i)&&nE Rs j)&&r.part Rs xt i)
def pS (Rs:List aK)(xt:List XR)(fr:List Str):Nat->List aK->Bool
 |_,[]=>Z7
 |i,r::l=>r.ok Rs xt fr i&&pS Rs xt fr (i+1) l
def aK.D7 (Rs:List aK)(r:aK):Prop:=match r.kd with
 |.n=>r.F=aM (r.kc.map cD) (r.fns.map (fnAt Rs)) r.N.length r.s
 |.e _ _=>True
 |.g _ _=>True
def oT (Rs:List aK):List aK->Prop
 | []=>True
 |r::l=>r.D7 Rs/\oT Rs l
theorem D8:∀{l:List aK} {k i:Nat} {r:aK},pS a b fr k l=Z7->l[i]?=Z9 r->r.ok a b fr (k+i)=Z7
 | [],_,i,_,_,e=>by simp at e
 |r::l,k,0,_,h,e=>by cases e;exact(aE h).1
 |r::l,k,i+1,_,h,e=>by
  have:=D8 (aE h).2 e
  rwa [show k+(i+1)=k+1+i by omega]
theorem Je:∀{l:List aK} {i:Nat} {r:aK},oT a l->l[i]?=Z9 r->r.D7 a
 | [],i,_,_,e=>by simp at e
 |r::l,0,_,h,e=>by cases e;exact h.1
 |r::l,i+1,_,h,e=>Je h.2 e
section
variable {P:cg}{w:World}{K:Z5}{mg:Str->Option Value}{base:Heap}{Rs:List aK}{xt:List XR}{fr:List Str}
theorem yN {r:aK}(h:r.ok Rs xt fr i=Z7):FnScope (r.G Rs xt).N r.ps (z08 r.st)/\(∀x,r.free.contains x=Z7->fr.contains x=Z7)/\(∀j∈r.fns,j<i/\nE Rs j=Z7)/\r.part Rs xt i=true:=by
 obtain⟨d,e⟩:=aE h;obtain⟨a1,a2,a3,a4,f⟩:=dG d;obtain⟨g,k,l,b,m⟩:=dG e;refine⟨⟨ye a1,cE a2,cE a3,ye a4,ye f,λx a=>?_,λy n z=>?_⟩,λx a=>?_,λj c=>⟨ye (aE (cx.mp b j c)).1,(aE (cx.mp b j c)).2⟩,m⟩
 .rcases gz.mp (cx.mp g x a)with q|q
  .exact .inl (yh q)
  .exact .inr (yh q)
 .have :=cE (cx.mp k y n);rw[z]at this;cases this
 .exact cx.mp l x (cn.mp a)
def pT (P:cg)(w:World)(K:Z5)(mg:Str->Option Value)(base:Heap)(i:Nat)(r:aK):Prop:=match r.kd with
 |.e _ _=>True
 |_=>Cal P w K mg base (i+1) r.nm r.ps (spD K r.ps.length r.F)/\lN P w K mg base (i+1) r.nm r.ps r.ps.length r.F
theorem yO (h:pT P w K mg base j c)(e:Rs[j]?=Z9 c)(n:nE Rs j=Z7):Cal P w K mg base (j+1) c.nm c.ps (spD K c.ps.length c.F)/\lN P w K mg base (j+1) c.nm c.ps c.ps.length c.F:=by
 unfold nE at n;rw[e]at n;have n:(!c.kd.jP)=true:=n;unfold pT at h;cases a:c.kd with
 |n=>rw[a]at h;exact h
 |g d f=>rw[a]at h;exact h
 |e x b=>rw[a]at n;cases n
def D9 (K:Z5)(mg:Str->Option Value)(y:Str×List Str):Prop:=∃a,mg y.1=Z9 (.ref a)/\∀H B,B Z8->Rep K H B (.ref a) (cD y)
theorem RV (hr:Rs[i]?=Z9 r)(h:r.ok Rs xt fr i=Z7)(T:∀x∈fr,mg x=Z8)(xk:∀Γ,Γ.sub=(xt.map XR.subs).flatten->Γ.rs=xt.map (·.c)->(Γ.fG=xt.map λr=>(r.c,r.B))->pR Γ K mg)(p:∀y∈r.kc,D9 K mg y)(m:∀j c,j<i->Rs[j]?=Z9 c->pT P w K mg base j c):Dok (r.G Rs xt) (r.kc.map cD) (r.fns.map (fnAt Rs)) P w K mg base i where
 free:=λx q=>T x (cn.mp ((yN h).2.1 x q))
 fns:=λj f n e=>by
  have e:(r.fns.map (sig Rs))[j]?=Z9 (f,n):=e;rw[ar]at e;obtain⟨b,k,e⟩:=bc.mp e;obtain⟨d,g⟩:=(yN h).2.2.1 b (bt k);have l:=(ba.mp hr).1;have hc:=am (mo d l);unfold sig at e;rw[hc]at e;cases e;refine⟨fnAt Rs b,b+1,Rs[b].ps,by rw[ar,k];rfl,d,?_⟩;have:fnAt Rs b=Rs[b].F:=by unfold fnAt;rw[hc]
  rw[this];exact(yO (m b _ d hc) hc g).1
 cst:=λj x e=>by have e:(r.kc.map (·.1))[j]?=Z9 x:=e;rw[ar]at e;obtain⟨y,o,rfl⟩:=bc.mp e;obtain⟨a,s,t⟩:=p y (bt o);exact⟨cD y,a,by rw[ar,o];rfl,s,t⟩
 mJ:=λj f n e=>by
  have e:(r.fns.map (sig Rs))[j]?=Z9 (f,n):=e;rw[ar]at e;obtain⟨b,k,e⟩:=bc.mp e;obtain⟨d,g⟩:=(yN h).2.2.1 b (bt k);have l:=(ba.mp hr).1;have hc:=am (mo d l);unfold sig at e;rw[hc]at e;cases e;refine⟨fnAt Rs b,b+1,Rs[b].ps,by rw[ar,k];rfl,d,?_⟩;have:fnAt Rs b=Rs[b].F:=by unfold fnAt;rw[hc]
  rw[this];exact(yO (m b _ d hc) hc g).2
 xk:=xk _ rfl rfl rfl
theorem RW (hok:pS Rs xt fr 0 Rs=Z7)(s:oT Rs Rs)(T:∀x∈fr,mg x=Z8)(xk:∀Γ,Γ.sub=(xt.map XR.subs).flatten->Γ.rs=xt.map (·.c)->(Γ.fG=xt.map λr=>(r.c,r.B))->pR Γ K mg)(n:Nat)(t:∀r∈Rs,∀y∈r.kc,D9 K mg y)(O:∀i r,i<n->Rs[i]?=Z9 r->Own K mg r.nm r.st r.ps):∀i r,i<n->Rs[i]?=Z9 r->pT P w K mg base i r:=by
 intro i
 induction i using Nat.strongRecOn with
 |ind i u=>
  intro r k hr
  have l:r.ok Rs xt fr i=true:=by
   have:=D8 hok hr
   rwa [jo]at this
  have D:=RV hr l T xk (t r (bt hr)) (λj c o hc=>u j o c (mo o k) hc);obtain⟨p,v,_,a⟩:=yN l;have hf:=Je s hr;obtain⟨f,fd,q,m,kp,b⟩:=O i r k hr;unfold aK.D7 at hf;unfold aK.part at a;unfold pT;cases h:r.kd with
  |n=>rw[h]at hf a;rw[hf];exact⟨⟨f,fd,d_fn (Γ:=r.G Rs xt) q p rfl rfl rfl D a,m,kp,b⟩,f,fd,ztk q p rfl rfl rfl D a,m,kp,b⟩
  |e c z=>rw[h]at a;cases a
  |g d A=>rw[h]at a;cases a
end
def Kf (K:Z5)(r:aK)(f:Addr)(fd:i4):Prop:=Z1 K ce r.nm=Z9 (Z9 (.ref f))/\∃(oc:Value) (od an:Option Addr) (sl:Array (Option Value)) (kV dc pm cd ct:Value),fd=W.fnOf r.nm r.nm (z11 r.st) (z0j r.st) (z08 r.st) .none kV dc pm an cd ct/\K.lookup f=Z9 ⟨oc,od,.func fd,sl⟩/\W.codeIn K cd r.nm=Z7/\Z3 K (.ref f)=Z7
def Ea (r:aK):Prop:=∀(kV doc pm:Value) (an:Option Addr) (nG ct:Value) (us:List Value),us.length=r.ps.length->xu (W.fnOf r.nm r.nm (z11 r.st) (z0j r.st) (z08 r.st) .none kV doc pm an nG ct) ⟨us,[]⟩=pure (r.ps.zip us)
theorem lS (h:b.length=n+1):∃a l,b=a::l/\l.length=n:=by
 cases b with
 |nil=>cases h
 |cons a l=>exact⟨a,l,rfl,Nat.succ.inj h⟩
theorem yP {P:List Value->Prop}(h:∀a,P [a])(b:List Value)(z:b.length=1):P b:=by obtain⟨a,l,rfl,y⟩:=lS z;cases List.eq_nil_of_length_eq_zero y;exact h a
theorem fY {P:List Value->Prop}(h:∀a b,P [a,b])(c:List Value)(z:c.length=2):P c:=by obtain⟨a,l,rfl,y⟩:=lS z;exact yP (P:=λl=>P (a::l)) (h a) l y
theorem pU {P:List Value->Prop}(h:∀a b c,P [a,b,c])(d:List Value)(z:d.length=3):P d:=by obtain⟨a,l,rfl,y⟩:=lS z;exact fY (P:=λl=>P (a::l)) (h a) l y
theorem by4 {P:List Value->Prop}(h:∀a b c d,P [a,b,c,d])(e:List Value)(z:e.length=4):P e:=by obtain⟨a,l,rfl,y⟩:=lS z;exact pU (P:=λl=>P (a::l)) (h a) l y
theorem RX {P:List Value->Prop}(h:∀a b c d e,P [a,b,c,d,e])(f:List Value)(z:f.length=5):P f:=by obtain⟨a,l,rfl,y⟩:=lS z;exact by4 (P:=λl=>P (a::l)) (h a) l y
def kOks (K:Z5):List aK->Prop
 | []=>True
 |r::l=>((∃f fd,Kf K r f fd)/\Ea r)/\kOks K l
theorem Jf {K:Z5}:∀{l:List aK} {i:Nat} {r:aK},kOks K l->l[i]?=Z9 r->(∃f fd,Kf K r f fd)/\Ea r
 | [],i,_,_,e=>by simp at e
 |r::l,0,_,h,e=>by cases e;exact h.1
 |r::l,i+1,_,h,e=>Jf h.2 e
def strOf:Value->Option Str
 |.str x _=>if ZY x then Z9 x else Z8
 |_=>Z8
def Jg (K:Z5)(y:Str×List Str):Bool:=match Z1 K ce y.1 with
 |some (Z9 (.ref a))=>(match K.lookup a with
  |some ⟨.type "tuple",Z8,.seq its _,_⟩=>decide (its.toList.map strOf=y.2.map Z9)&&decide (y.2.length<=1000)
  |_=>Z6)
 |_=>Z6
def pV (K:Z5)(r:aK):Option (i4×Bool):=match Z1 K ce r.nm with
 |some (Z9 (.ref f))=>(match K.lookup f with
  |some ⟨_,_,.func fd,_⟩=>Z9 (fd,W.codeIn K fd.code r.nm&&Z3 K (.ref f))
  |_=>Z8)
 |_=>Z8
def Jh (r:aK)(x:i4×Bool):i4×Bool:=(W.fnOf r.nm r.nm (z11 r.st) (z0j r.st) (z08 r.st) .none x.1.kwdefaults x.1.doc x.1.pyModule x.1.annotations x.1.code x.1.closureTuple,Z7)
def yQ (K:Z5)(A:Addr):Bool:=match K.lookup A with
 |some ⟨.type "type",_,.cls _,_⟩=>Z7
 |_=>Z6
def yR:List Value:=[.type "ValueError",.type "Exception",.type "BaseException",.type "object"]
def Eb (K:Z5)(r:XR):Option (Bool×Bool×Option (Option Value)×Option (Option Value)×Option (Option Value)×Option Bool×Option Bool×Option Bool×Bool×Option Bool×List (Bool×Option Bool)):=match Z1 K ce r.c,Z1 K ce r.B with
 |some (Z9 (.ref A)),Z9 (Z9 (.ref D))=>Z9 (yQ K A,W.excIn K A yR "ValueError.__new__",Z4 K (.ref A) "__class__",Z4 K (.ref A) "__getattribute__",Z4 K (.ref A) "__getattr__",Z0 K (.ref A) (.type "object"),Z0 K (.ref A) (.type "BaseException"),Z0 K (.ref A) (.type "ValueError"),W.excIn K D yR "ValueError.__new__",Z0 K (.ref A) (.ref D),r.cs.map λy=>match Z1 K ce y.1 with
  |some (Z9 (.ref E))=>(yQ K E,Z0 K (.ref A) (.ref E))
  |_=>(Z6,Z8))
 |_,_=>Z8
def Ec (r:XR):Option (Bool×Bool×Option (Option Value)×Option (Option Value)×Option (Option Value)×Option Bool×Option Bool×Option Bool×Bool×Option Bool×List (Bool×Option Bool)):=Z9 (Z7,Z7,Z9 (Z9 (.builtin "object.__class__")),Z9 (Z9 (.builtin "BaseException.__getattribute__")),Z9 Z8,Z9 Z7,Z9 Z7,Z9 Z7,Z7,Z9 Z7,r.cs.map λy=>(Z7,Z9 y.2))
theorem Ji {K:Z5}(h:yQ K A=Z7):∃a cd sl,K.lookup A=Z9 ⟨.type "type",a,.cls cd,sl⟩:=by
 unfold yQ at h;split at h
 .rename_i a cd sl e;simp_all
 .cases h
theorem zby {K:Z5}:∀{l:List (Str×Bool)},(l.map fun y=>match Z1 K ce y.1 with
  |some (Z9 (.ref E))=>(yQ K E,Z0 K (.ref A) (.ref E))
  |_=>(Z6,Z8))=(l.map λy=>(Z7,Z9 y.2))->AB K A l
 | [],_=>trivial
 |y::l,h=>by
  have h:=List.cons.inj h;refine⟨?_,zby h.2⟩;have e:=h.1
  dsimp only at e
  split at e
  .rename_i E a;have e:=yd e;obtain⟨b,cd,sl,q⟩:=Ji e.1;exact⟨E,b,cd,sl,a,q,e.2⟩
  .cases(yd e).1
theorem RY {K:Z5}(h:Eb K r=Ec r):∃A D,Kx K r A D:=by
 unfold Eb Ec at h;split at h
 .rename_i A D k l;have h:=yd (yc h);have b:=yd h.2;have c:=yd b.2;have d:=yd c.2;have e:=yd d.2;have f:=yd e.2;have g:=yd f.2;have i:=yd g.2;have j:=yd i.2;have a:=yd j.2;exact⟨A,D,k,Ji h.1,b.1,c.1,d.1,e.1,f.1,g.1,i.1,l,j.1,a.1,zby a.2⟩
 .cases h
theorem Jj {K:Z5}:∀{l:List XR},(∀r∈l,∃A D,Kx K r A D)->kxs K l
 | [],_=>trivial
 |r::_,h=>⟨h r (.head _),Jj λr hr=>h r (.tail _ hr)⟩
def KEq (K:iz->Z5)(Rs:List aK)(fr:List Str)(xt:List XR):Prop:=∀P,(Rs.map λr=>(pV (K P) r).isSome,Rs.map λr=>pV (K P) r,fr.map λn=>Z1 (K P) ce n,xt.map λr=>Eb (K P) r,Rs.map λr=>r.kc.map λy=>Jg (K P) y)=(Rs.map λ_=>Z7,Rs.map λr=>(pV (K P) r).map (Jh r),fr.map λ_=>Z9 Z8,xt.map Ec,Rs.map λr=>r.kc.map λ_=>Z7)
theorem KEq_r:KEq=KEq:=rfl
theorem RZ {K:Z5}(h:(pV K r).isSome=Z7)(e:pV K r=(pV K r).map (Jh r)):∃f fd,Kf K r f fd:=by
 cases z:pV K r with
 |none=>rw[z]at h;cases h
 |some x=>
  rw[z]at e;have e:=yc e;unfold pV at z;split at z
  .rename_i f hf;split at z
   .rename_i oc od fd sl c;have z:=yc z;have d:=congrArg x4 z;have a:=congrArg Prod.snd z;rw[congrArg Prod.snd e]at a;have b:=bn.mp a;subst d;exact⟨f,x.1,hf,oc,od,x.1.annotations,sl,x.1.kwdefaults,x.1.doc,x.1.pyModule,x.1.code,x.1.closureTuple,congrArg x4 e,c,b.1,b.2⟩
   .cases z
  .cases z
theorem AF {K:iz->Z5}(h:KEq K e fr g)(P:iz):(∀r∈e,∃f fd,Kf (K P) r f fd)/\(∀n∈fr,Z1 (K P) ce n=Z9 Z8)/\kxs (K P) g/\∀r∈e,∀y∈r.kc,Jg (K P) y=true:=by have a:=yd (h P);have b:=yd a.2;have c:=yd b.2;have d:=yd c.2;exact⟨λr hr=>RZ (gb.mp a.1 r hr) (gb.mp b.1 r hr),λn hn=>gb.mp c.1 n hn,Jj λr hr=>RY (gb.mp d.1 r hr),λr hr=>gb.mp (gb.mp d.2 r hr)⟩
def sI:List aK->Prop
 | []=>True
 |r::l=>Ea r/\sI l
theorem Jk {K:Z5}:∀{l:List aK},(∀r∈l,∃f fd,Kf K r f fd)->sI l->kOks K l
 | [],_,_=>trivial
 |r::_,h,b=>⟨⟨h r (.head _),b.1⟩,Jk (λr hr=>h r (.tail _ hr)) b.2⟩
end Mi
name_quick tkeq for Mi.KEq by Mi.KEq_r
namespace Mk
open Mi
section
open PySem
abbrev P:=List (Str×Int)
def pr (p:Str×Int):D:=.tuple [.str p.1,.int p.2]
def pk (l:P):D:=.tuple (l.map pr)
def ep (p:Str×Int):D×D:=(.str p.1,.int p.2)
def en (l:P):bF:=l.map ep
def fnd:P->Str->Option Int
 | [],_=>Z8
 |p::l,n=>if p.1=n then Z9 p.2 else fnd l n
def look (l:P)(n:Str):Int:=(fnd l n).getD 0
def ks (l:P):List Str:=l.map (·.1)
def put:P->Str->Int->P
 | [],n,v=>[(n,v)]
 |p::l,n,v=>if p.1=n then(p.1,v)::l else p::put l n v
def sl (a b:Str):Prop:=a.cps.toList<b.cps.toList
theorem Ed (a:Str):¬sl a a:=List.lt_irrefl _
theorem R0 (h:sl a b)(k:sl b c):sl a c:=List.lt_trans h k
theorem R1 {b:Str}(h:a.cps.toList=b.cps.toList):a=b:=by cases a;cases b;simp at h;subst h;rfl
theorem R3 (h:a≠b):sl a b\/sl b a:=by
 by_cases c:sl a b
 .exact .inl c
 .by_cases d:sl b a
  .exact .inr d
  .exact(h (R1 (List.le_antisymm (List.not_lt.mp d) (List.not_lt.mp c)))).elim
theorem R4 (h:sl a b):a≠b:=λe=>Ed b (e▸h)
theorem z24:∀{l:P},n∉ks l->fnd l n=Z8
 | [],_=>rfl
 |p::l,h=>by simp only[ks,br,au,not_or]at h;rw[fnd,yb (λe=>h.1 e.symm)];exact z24 h.2
theorem yS:∀{l:P},fnd l n=Z9 v->(n,v)∈l
 | [],h=>by cases h
 |p::l,h=>by
  rw[fnd]at h;split at h
  .rename_i e;cases h;subst e;simp_all
  .exact ay _ (yS h)
theorem R5 (h:fnd l n=Z9 v):n∈ks l:=av.mpr ⟨_,yS h,rfl⟩
theorem yT:∀{l:P} {p:Str×Int},(ks l).Nodup->p∈l->fnd l p.1=Z9 p.2
 |q::l,p,nd,h=>by
  rw[ks,br,cz]at nd;rw[fnd];rcases(au.mp h)with rfl|h
  .rw[ya rfl]
  .rw[yb λe:q.1=p.1=>nd.1 (av.mpr ⟨p,h,e.symm⟩)];exact yT nd.2 h
theorem Jl (h:n∈ks l):∃v,fnd l n=Z9 v:=by
 cases e:fnd l n with
 |some v=>exact⟨v,rfl⟩
 |none=>
  exfalso
  induction l with
  |nil=>cases h
  |cons p l a=>
   rw[fnd]at e;split at e
   .cases e
   .rename_i hn;rcases au.mp h with h|h
    .exact hn h.symm
    .exact a h e
theorem Ee (n:Str)(v:Int):∀l,∀m,m∈ks (put l n v)↔m=n\/m∈ks l
 | [],m=>by simp[put,ks]
 |p::l,m=>by
  rw[put];split
  .rename_i e;subst e;simp[ks]
  .have :=Ee n v l m;simp only[ks,br,au]at this ⊢;rw[this];constructor
   .rintro(h|h|h)<;>simp[h]
   .rintro(h|h|h)<;>simp[h]
theorem Jm (n:Str)(v:Int):∀l,(ks l).Nodup->(ks (put l n v)).Nodup
 | [],_=>by simp[put,ks]
 |p::l,h=>by
  rw[put];split
  .exact h
  .rename_i e;rw[ks,br,cz]at h ⊢;refine⟨λz=>?_,Jm n v l h.2⟩;rcases(Ee n v l p.1).mp z with z|z
   .exact e z
   .exact h.1 z
theorem Jo:∀{a b:List Str},a.Nodup->(∀x∈a,x∈b)->a.length<=b.length
 | [],b,_,_=>cy _
 |x::a,b,nd,h=>by rw[cz]at nd;have hx:=h x bb;have:=Jo nd.2 λy c=>(List.mem_erase_of_ne λe:y=x=>nd.1 (e▸c)).mpr (h y (ay _ c));rw[List.length_erase_of_mem hx]at this;have:0<b.length:=List.length_pos_of_mem hx;simp;omega
theorem uZ (a b:Str):eqK (.str a) (.str b)=decide (a=b):=by simp only[eqK]
theorem R6 (a:Str):jM (.str a)=true:=by simp only[jM]
theorem Jp (n:Str):∀l,eP (en l) (.str n)=(fnd l n).map .int
 | []=>rfl
 |p::l=>by
  have a:=Jp n l;unfold eP at a ⊢;rw[fnd];show Option.map _ (match eqK (.str p.1) (.str n)with|true=>_|false=>_)=_;rw[uZ];by_cases h:p.1=n
  .rw[ya h];simp[h,ep]
  .rw[yb h];simp only[h,decide_false];exact a
theorem Ef (n:Str):∀l,((en l).any λe=>eqK e.1 (.str n))=Z7↔n∈ks l
 | []=>by simp[en,ks]
 |p::l=>by show(eqK (.str p.1) (.str n)||_)=Z7↔_;rw[uZ,oy,ks];have:=Ef n l;rw[en,ks]at this;rw[this];simp[eq_comm]
theorem Jq:∀{l:P},(ks l).Nodup->n∈ks l->(en l).map (λe=>if eqK e.1 (.str n)then(e.1,.int v)else e)=en (put l n v)
 |p::l,nd,h=>by
  rw[ks,br,cz]at nd;rw[put];show(if eqK (.str p.1) (.str n)=Z7 then _ else _)::_=_;rw[uZ];by_cases e:p.1=n
  .have hn:∀q∈l,¬q.1=n:=λq a z=>nd.1 (av.mpr ⟨q,a,z.trans e.symm⟩);rw[ya e,ya (by simpa using e)]
   congr 1
   rw[dh];apply i6;intro q a;show(if eqK (.str q.1) (.str n)=Z7 then _ else _)=ep q;rw[uZ,yb (by simpa using hn q a)]
  .rw[yb e,yb (by simpa using e)]
   congr 1
   refine Jq nd.2 ?_;rcases au.mp h with h|h
   .exact(e h.symm).elim
   .exact h
theorem Eg:∀{l:P},n∉ks l->put l n v=l++[(n,v)]
 | [],_=>rfl
 |p::l,h=>by simp only[ks,br,au,not_or]at h;rw[put,yb λe=>h.1 e.symm,Eg h.2];rfl
theorem Jr (nd:(ks l).Nodup):dput (en l) (.str n) (.int v)=en (put l n v):=by
 unfold dput;by_cases h:n∈ks l
 .rw[ya ((Ef n l).mpr h)];exact Jq nd h
 .rw[yb λz=>h ((Ef n l).mp z),Eg h];simp[en,ep]
theorem Js:∀l a,(ks (a++l)).Nodup->jN (en a) (l.map pr)=Z9 (en (a++l))
 | [],a,_=>by simp[jN]
 |p::l,a,nd=>by
  have b:=nd;rw[ks,cf]at nd;have c:=λz=>by rw[mz]at nd;exact nd.2.2 _ z _ bb rfl
  show(if jM (.str p.1)then jN (dput (en a) (.str p.1) (.int p.2)) (l.map pr)else Z8)=_;rw[ya (R6 _),Jr (by rw[mz]at nd;exact nd.1),Eg c,Js l (a++[(p.1,p.2)]) (by rw[gw];exact b),gw];rfl
theorem R7 (nd:(ks l).Nodup):jN [] (l.map pr)=Z9 (en l):=by have:=Js l [] (by simpa using nd);simpa[en]using this
theorem R8 (l:P):(en l).map ent=l.map pr:=by rw[en,dh];rfl
theorem Jt (l:P):(en l).length=l.length:=by rw[en,ae]
theorem Ju (l:P):bQ (en l)=true:=by unfold bQ;rw[cx];intro e a;obtain⟨p,_,rfl⟩:=av.mp a;rfl
theorem R9 (p:Str×Int):aL (pr p)=true:=rfl
theorem Eh (l:P):imms (l.map pr)=true:=uH.mpr λx a=>by obtain⟨p,_,rfl⟩:=av.mp a;rfl
theorem eF (l:P):aL (pk l)=true:=Eh l
def lp (p q:Str×Int):Bool:=lD (pr p) (pr q)
def yU (x:Str×Int):P->P
 | []=>[x]
 |y::ys=>if lp y x then y::yU x ys else x::y::ys
def Jv:P->P
 | []=>[]
 |x::xs=>yU x (Jv xs)
def Sd (l:P):Prop:=l.Pairwise λp q=>sl p.1 q.1
theorem R' (h:Sd l):(ks l).Nodup:=by unfold ks List.Nodup;rw[jp];exact List.Pairwise.imp (λz=>R4 z) h
structure PK (l:P):Prop where
 sd:Sd l
 pos:∀p∈l,0<p.2
theorem PK.nd (h:PK l):(ks l).Nodup:=R' h.sd
theorem PK.oU (h:PK l)(n:Str):0<=look l n:=by
 unfold look;cases e:fnd l n with
 |none=>exact jy _
 |some v=>exact Int.le_of_lt (h.pos _ (yS e))
theorem PK.key (h:PK l):n∈ks l↔0<look l n:=by
 constructor
 .intro z;obtain⟨v,e⟩:=Jl z;unfold look;rw[e];exact h.pos _ (yS e)
 .intro z;unfold look at z;cases e:fnd l n with
  |none=>rw[e]at z;simp_all
  |some v=>exact R5 e
theorem PK.bT (h:PK l)(a:p∈l):look l p.1=p.2:=by unfold look;rw[yT h.nd a];rfl
theorem PK.ext:∀{a b:P},PK a->PK b->(∀n,look a n=look b n)->a=b
 | [],[],_,_,_=>rfl
 | [],q::b,_,hb,h=>by have:=h q.1;rw[hb.bT bb]at this;have z:=hb.pos _ bb;rw[<-this]at z;exact absurd z (Int.lt_irrefl 0)
 |p::a,[],ha,_,h=>by have:=h p.1;rw[ha.bT bb]at this;have z:=ha.pos _ bb;rw[this]at z;exact absurd z (Int.lt_irrefl 0)
 |p::a,q::b,ha,hb,h=>by
  have no:∀{x y:Str×Int} {l m:P},PK (x::l)->PK (y::m)->(∀n,look (x::l) n=look (y::m) n)->¬sl x.1 y.1:=λ{x y l m} hx f h z=>by
   have e:=h x.1;rw[hx.bT bb]at e;have k:=f.key.mpr (e▸hx.pos _ bb);rcases au.mp k with k|k
   .exact Ed _ (k▸z)
   .obtain⟨w,i,c⟩:=av.mp k;have:=(ij.mp f.sd).1 w i;rw[c]at this;exact Ed _ (R0 z this)
  have g:p.1=q.1:=by
   by_cases e:p.1=q.1
   .exact e
   .rcases R3 e with z|z
    .exact(no ha hb h z).elim
    .exact(no hb ha (λn=>(h n).symm) z).elim
  have c:p.2=q.2:=by have:=h p.1;rw[ha.bT bb,g,hb.bT bb]at this;exact this
  have d:=Prod.ext g c;subst d
  congr 1
  refine PK.ext ⟨(ij.mp ha.sd).2,λx hx=>ha.pos x (ay _ hx)⟩ ⟨(ij.mp hb.sd).2,λx hx=>hb.pos x (ay _ hx)⟩ λn=>?_;have hn:=h n;unfold look at hn ⊢;rw[fnd,fnd]at hn;by_cases e:p.1=n
  .have na:n∉ks a:=by have :=ha.nd;rw[ks,br,cz]at this;exact e▸this.1
   rw[z24 na,z24 (by have:=hb.nd;rw[ks,br,cz]at this;exact e▸this.1)]
  .rw[yb e,yb e]at hn;exact hn
end
section
open PySem
section
variable {Κ:List D}{Φ:List Fn}{ρ:Rho}{a b c t:C}{p q:S}{i:Nat}{f:D->Rho->Res Out}{x:D}{xs:List D}
theorem Jw:aW Κ Φ (.seq p q) ρ=nV (aW Κ Φ p ρ) (aW Κ Φ q):=rfl
theorem Ei:aW Κ Φ (.asg (.nm i) t) ρ=(aF Κ Φ t ρ>>=λx=>.ok (.nx (ρ.set i (Z9 (z1r x))))):=rfl
theorem Ej:aW Κ Φ (.ifS c p q) ρ=(cP Κ Φ c ρ>>=λk=>if k then aW Κ Φ p ρ else aW Κ Φ q ρ):=rfl
theorem Sa:aW Κ Φ (.ret (.var i)) ρ=(match ρ[i]? with|some (Z9 (g,d))=>.ok (.rt (if aL d then .fr else iX g) d)|_=>.no):=rfl
theorem Se:aW Κ Φ (.dW i a b) ρ=(aF Κ Φ b ρ>>=λy=>aF Κ Φ a ρ>>=λx=>match ρ[i]? with
 |some (Z9 (.fr,.dict es))=>if jM x.2&&okIn y&&decide (es.length<aZ)then .ok (.nx ((ρ.set i (Z9 (.fr,.dict (dput es x.2 y.2)))).map eQ))else .no
 |some (Z9 (.fr,.list xs))=>(match x.2 with
  |.int j=>if okIn y then(match iV xs.length j with|some n=>.ok (.nx ((ρ.set i (Z9 (.fr,.list (xs.set n y.2)))).map eQ))|none=>.no)else .no
  |_=>.no)
 |_=>.no):=rfl
theorem Jx:aW Κ Φ (.mut m i a) ρ=(cW Κ Φ a ρ>>=λc=>match ρ[i]? with
 |some (Z9 (.fr,.list xs))=>jS m xs c>>=λb=>.ok (.nx ((ρ.set i (Z9 (.fr,.list b))).map eQ))
 |_=>.no):=rfl
theorem Sf:aW Κ Φ (.bC d a p) e=(evF Κ Φ a e>>=λw=>cX (λx b=>dQ d (gJ x w.1,x) b>>=λc=>aW Κ Φ p c) w.2.1 w.2.2):=rfl
theorem Sh:cX f (x::xs) ρ=(match f x ρ with
 |.ok (.nx dX)=>cX f xs dX
 |.ok (.rt g d)=>.ok (.rt g d)
 |.exc e=>.exc e
 |.no=>.no):=rfl
theorem Jy:cW Κ Φ .nil ρ=.ok []:=rfl
theorem yV:cW Κ Φ (.cons a b) ρ=(aF Κ Φ a ρ>>=λx=>cW Κ Φ b ρ>>=λxs=>.ok (x::xs)):=rfl
theorem Ek:rN Κ Φ (.tv a) ρ=(aF Κ Φ a ρ>>=λx=>rM x.2):=rfl
theorem yW:CC Κ Φ (.tv a) ρ=(aF Κ Φ a ρ>>=λx=>z55 x.2>>=λp=>.ok (x.1,p)):=rfl
theorem El:cP Κ Φ (.tv a) ρ=(aF Κ Φ a ρ>>=λx=>iW x.2):=rfl
theorem Si:cP Κ Φ (.and a b) d=(cP Κ Φ a d>>=λc=>if c then cP Κ Φ b d else .ok Z6):=rfl
theorem Em:cP Κ Φ (.or a b) d=(cP Κ Φ a d>>=λc=>if c then .ok Z7 else cP Κ Φ b d):=rfl
theorem Sj:cP Κ Φ (.not a) ρ=(cP Κ Φ a ρ>>=λc=>.ok (!c)):=rfl
theorem Eo:evW Κ Φ (.tv a) ρ=(aF Κ Φ a ρ>>=λx=>z5f x.2>>=λxs=>.ok (x.1,xs)):=rfl
theorem Sk:evW Κ Φ (.iM a) ρ=(cW Κ Φ a ρ>>=λb=>jR (b.map (·.2))>>=λxs=>.ok (.fr,xs)):=rfl
theorem Sm:evF Κ Φ (.tv (.var i)) ρ=(if nX ρ i then z5 i ρ else if lF Κ Φ (.tv (.var i)) ρ then aF Κ Φ (.var i) ρ>>=λx=>lE x ρ else rO Κ Φ (.tv (.var i)) ρ):=rfl
end
theorem eS (h:aW Κ Φ a ρ=.ok (.nx c))(k:aW Κ Φ b c=r):aW Κ Φ (.seq a b) ρ=r:=by rw[Jw,h];exact k
theorem z0g (h:aW Κ Φ a ρ=.ok (.rt g d)):aW Κ Φ (.seq a b) ρ=.ok (.rt g d):=by rw[Jw,h];rfl
theorem eL (h:aW Κ Φ s (a.map (λd=>Z9 (.od,d))++bo (n-a.length) Z8)=.ok (.rt g d)):aM Κ Φ n s a=.ok (g,d):=by unfold aM;rw[h]
theorem Jz {g i:Type}{m:i->D}(I:g->Rho->Prop)(step:g->i->g):∀(d:List i) a b,(∀a x b,x∈d->I a b->∃c,f (m x) b=.ok (.nx c)/\I (step a x) c)->I a b->∃c,cX f (d.map m) b=.ok (.nx c)/\I (d.foldl step a) c
 | [],a,b,_,h=>⟨b,rfl,h⟩
 |x::d,a,b,hf,h=>by obtain⟨j,e,l⟩:=hf a x b bb h;obtain⟨k,n,o⟩:=Jz I step d (step a x) j (λa y b p=>hf a y b (ay _ p)) l;exact⟨k,by rw[br,Sh,e];exact n,o⟩
theorem Ep {b:Type}{m:b->D}(g:b->Option D):∀(a:List b),(∀x∈a,f (m x)=.ok ((g x).map λd=>(.fr,d)))->hY f (a.map m)=.ok ((a.filterMap g).map λd=>(.fr,d))
 | [],_=>rfl
 |x::a,h=>by
  rw[br,hY,h x bb,Ep g a λy c=>h y (ay _ c)];cases e:g x with
  |none=>rw[qp e];rfl
  |some d=>rw[qr e];rfl
theorem JA (a:List D):nQ (a.map λd=>(G.fr,d))=.fr:=by unfold nQ;rw[ya];rw[w5];exact cx.mpr λ_ _=>rfl
theorem Sn (a:List D):cB (a.map λd=>(G.fr,d))=.fr:=by unfold cB;rw[ya];rw[cx];intro x b;obtain⟨d,_,rfl⟩:=av.mp b;rfl
theorem AG (a:List D):(a.map λd=>(G.fr,d)).map (λx=>x.2)=a:=by rw[dh];exact t9 _
theorem So (a b:Int):hX "max" [.int a,.int b]=.ok (.int (max a b)):=rfl
theorem Sq (l:P)(n:Str)(v:Int):mtD "get" (.dict (en l)) [.str n,.int v]=.ok (.int ((fnd l n).getD v)):=by have:mtD "get" (.dict (en l)) [.str n,.int v]=.ok ((eP (en l) (.str n)).getD (.int v)):=rfl;rw[this,Jp];cases fnd l n<;>rfl
theorem Er (l:P)(n:Str):mtD "get" (.dict (en l)) [.str n,.int 0]=.ok (.int (look l n)):=Sq l n 0
theorem JB (b:Bool)(nd:(ks l).Nodup):aggD "dict" b (l.map pr)=.ok (.dict (en l)):=by show Res.eE ((jN [] (l.map pr)).map PyData.dict)=_;rw[R7 nd];rfl
def chr (z:Str)(i:Int):Str:=⟨#[z.cps.toList.getD i.toNat 0]⟩
theorem AH (z:Str)(i:Int):(chr z i).length=1:=rfl
theorem JC (a b:Str):(a++b).length=a.length+b.length:=by show Array.size (a.cps++b.cps)=_;rw[Array.size_append];rfl
theorem AI {b:Type}(a:List b)(i:Int)(d:b)(h0:0<=i)(c:i<a.length):cR a i=Z9 (a.getD i.toNat d):=by
 unfold cR iV;rw[ya h0,ya c];show a[i.toNat]?=_;have:i.toNat<a.length:=by omega
 rw[az,am this];rfl
theorem zX (h0:0<=i)(a:i<z.length)(b:z.length<=1000):eR (.str z) (.int i)=.ok (.str (chr z i)):=by show(if z.length<=aZ then Res.eE ((cR z.cps.toList i).map λc=>ZX ⟨#[c]⟩)else .no)=_;rw[ya (by unfold aZ;omega),AI _ i 0 h0 (e9▸a)];rfl
theorem Sr {ns:List Str}{i:Int}(h0:0<=i)(a:i<ns.length):eR (.list (ns.map .str)) (.int i)=.ok (.str (ns.getD i.toNat ⟨#[]⟩)):=by
 show Res.eE (cR (ns.map ZX) i)=_;rw[AI _ i (.str ⟨#[]⟩) h0 (by rw[ae];exact a)]
 congr 1
 have:i.toNat<ns.length:=by omega
 rw[az,az,ar,am this];rfl
theorem Su {ns:List Int}{i:Int}(h0:0<=i)(a:i<ns.length):eR (.list (ns.map .int)) (.int i)=.ok (.int (ns.getD i.toNat 0)):=by
 show Res.eE (cR (ns.map ZV) i)=_;rw[AI _ i (.int 0) h0 (by rw[ae];exact a)]
 congr 1
 have:i.toNat<ns.length:=by omega
 rw[az,az,ar,am this];rfl
theorem add_str (h:a.length+b.length<=1000):cK .Add (.str a) (.str b)=.ok (.str (a++b)):=by show(if _ then _ else _)=_;rw[ya (by unfold aZ;omega)]
theorem add_list (h:a.length+b.length<=1000):cK .Add (.list a) (.list b)=.ok (.list (a++b)):=by show(if _ then _ else _)=_;rw[ya (by unfold aZ;omega)]
theorem JD (h:-(2 ^ 64)<b/\b<2 ^ 64):cK .Mult (.int a) (.int b)=.ok (.int (a*b)):=by show(if _ then _ else _)=_;rw[ya (.inr h)]
theorem yX (h:-(2 ^ 64)<a/\a<2 ^ 64):cK .Mult (.int a) (.int b)=.ok (.int (a*b)):=by show(if _ then _ else _)=_;rw[ya (.inl h)]
theorem j' (h:0<b):cK .Mod (.int a) (.int b)=.ok (.int (a%b)):=by show(if _ then _ else _)=_;rw[ya h]
theorem JE:cK .Pow (.int 10) (.int 30)=.ok (.int 1000000000000000000000000000000):=rfl
theorem Es (h0:0<=n)(a:n<=1000):jR [.int n]=.ok ((cc n.toNat).map λ(i:Nat)=>.int i):=by show(if _ then _ else _)=_;rw[ya (by unfold aZ;omega)]
theorem vA (ns:List Str):imms (ns.map .str)=true:=uH.mpr λx a=>by obtain⟨p,_,rfl⟩:=av.mp a;rfl
theorem Sv (a b:Int):dV (.int a) (.int b)=decide (a=b):=by rfl
section
variable {Κ:List D}{Φ:List Fn}{ρ:Rho}
theorem mK:aF Κ Φ (.var i) ρ=(z4 ρ[i]?):=rfl
theorem Sw:aF Κ Φ (.non) a=(.ok (.fr,.none)):=rfl
theorem Sx:aF Κ Φ (.int i) a=(.ok (.fr,.int i)):=rfl
theorem Sy:aF Κ Φ (.str x) a=(.ok (.fr,.str x)):=rfl
theorem JF:aF Κ Φ (.bin e a b) c=(aF Κ Φ a c>>=λx=>aF Κ Φ b c>>=λy=>cK e x.2 y.2>>=λd=>.ok (gN d (cB [x,y]),d)):=rfl
theorem Sz:aF Κ Φ (.cmp op a b) ρ=(aF Κ Φ a ρ>>=λx=>aF Κ Φ b ρ>>=λy=>cmpD op x.2 y.2>>=λb=>.ok (.fr,.bool b)):=rfl
theorem SA:aF Κ Φ (.and a b) d=(aF Κ Φ a d>>=λx=>match x.2 with|.bool c=>if c then aF Κ Φ b d else .ok (.fr,.bool Z6)|_=>.no):=rfl
theorem SD:aF Κ Φ (.not a) ρ=(aF Κ Φ a ρ>>=λx=>iW x.2>>=λc=>.ok (.fr,.bool (!c))):=rfl
theorem AJ:aF Κ Φ (.jO c a b) d=(cP Κ Φ c d>>=λk=>if k then aF Κ Φ a d else aF Κ Φ b d):=rfl
theorem SE:aF Κ Φ (.tup b) c=(cW Κ Φ b c>>=λa=>.ok (gJ (.tuple (a.map (·.2))) (cB a),.tuple (a.map (·.2)))):=rfl
theorem SF:aF Κ Φ (.lst b) ρ=(cW Κ Φ b ρ>>=λa=>.ok (cB a,.list (a.map (·.2)))):=rfl
theorem SG:aF Κ Φ (.rep xs b) ρ=(cW Κ Φ xs ρ>>=λys=>aF Κ Φ b ρ>>=λn=>nU ys n.2):=rfl
theorem SH:aF Κ Φ (.eA) ρ=(.ok (.fr,.dict [])):=rfl
theorem sJ:aF Κ Φ (.ix a b) c=(aF Κ Φ a c>>=λx=>aF Κ Φ b c>>=λy=>eR x.2 y.2>>=λd=>.ok (gJ d x.1,d)):=rfl
theorem yY:aF Κ Φ (.sl a c e) b=(aF Κ Φ a b>>=λx=>rN Κ Φ c b>>=λl=>rN Κ Φ e b>>=λh=>rL x.2 l h>>=λd=>.ok (gN d (cB [x]),d)):=rfl
theorem Et:aF Κ Φ (.call k c args) a=(cW Κ Φ args a>>=λb=>match Φ[k]? with|some m=>m (b.map (·.2))>>=λr=>.ok (gJ r.2 (iX r.1),r.2)|none=>.no):=rfl
theorem Eu:aF Κ Φ (.bi f args) a=(cW Κ Φ args a>>=λb=>hX f (b.map (·.2))>>=λd=>.ok (gJ d .al,d)):=rfl
theorem JG:aF Κ Φ (.gB f a) b=(CC Κ Φ a b>>=λw=>aggD f w.2.1 w.2.2>>=λd=>.ok (gJ d (if imms w.2.2 then .fr else agG w.1),d)):=rfl
theorem Ew:aF Κ Φ (.mt m o args) a=(aF Κ Φ o a>>=λx=>cW Κ Φ args a>>=λb=>mtD m x.2 (b.map (·.2))>>=λd=>.ok (gJ d .al,d)):=rfl
theorem SI:aF Κ Φ (.sortI i) ρ=(match ρ[i]? with
 |some (Z9 (_,.dict es))=>if bQ es&&decide (es.length<2)then .ok (.fr,.list (es.map ent))else .no
 |_=>.no):=rfl
theorem Ex {a:C}:aF Κ Φ (.comp f g i h it a c) d=(evW Κ Φ it d>>=λw=>hY (λx=>dQ h (gJ x w.1,x) (bo f Z8++g.map λj=>bW (d.getD j Z8))>>=λb=>cP Κ Φ a b>>=λk=>if k then aF Κ Φ c b>>=λy=>.ok (Z9 y)else .ok Z8) w.2>>=λe=>.ok (nQ e,.list (e.map (·.2)))):=rfl
end
section
variable {Κ:List D}{Φ:List Fn}{ρ:Rho}{a b c t o args:C}{x y d:D}{ds:List D}{k k':Bool}{g:G}
def Ev (Κ:List D)(Φ:List Fn)(c:C)(ρ:Rho)(d:D):Prop:=∃g,aF Κ Φ c ρ=.ok (g,d)
def Vv (Κ:List D)(Φ:List Fn)(c:C)(ρ:Rho)(d:D):Prop:=aF Κ Φ c ρ=.ok (.fr,d)/\aL d=Z7
def Aa (Κ:List D)(Φ:List Fn)(c:C)(ρ:Rho)(ds:List D):Prop:=∃ys,cW Κ Φ c ρ=.ok ys/\ys.map (·.2)=ds
def Av (Κ:List D)(Φ:List Fn)(c:C)(ρ:Rho)(ds:List D):Prop:=cW Κ Φ c ρ=.ok (ds.map λd=>(.fr,d))/\imms ds=Z7
def Tt (Κ:List D)(Φ:List Fn)(c:C)(ρ:Rho)(k:Bool):Prop:=cP Κ Φ c ρ=.ok k
theorem Vv.e (h:Vv Κ Φ c ρ d):Ev Κ Φ c ρ d:=⟨_,h.1⟩
theorem Ev.of (h:aF Κ Φ c ρ=.ok (g,d)):Ev Κ Φ c ρ d:=⟨_,h⟩
theorem z02 (h:ρ[i]?=Z9 (Z9 (g,d))):Ev Κ Φ (.var i) ρ d:=⟨_,by rw[mK];rw[h];rfl⟩
theorem v_var (h:ρ[i]?=Z9 (Z9 (g,d)))(a:aL d=Z7):Vv Κ Φ (.var i) ρ d:=⟨by rw[mK];rw[h];show Res.ok (if aL d=Z7 then _ else _,d)=_;rw[ya a],a⟩
theorem z05:Vv Κ Φ (.int i) ρ (.int i):=⟨by rw[Sx],rfl⟩
theorem cM:Vv Κ Φ (.str i) ρ (.str i):=⟨by rw[Sy],rfl⟩
theorem SJ:Vv Κ Φ .non ρ .none:=⟨by rw[Sw],rfl⟩
theorem lT (a:aL d=Z7):gJ d g=.fr:=by unfold gJ;rw[ya a]
theorem SK (a:aL d=Z7):gN d g=.fr:=by cases d<;>first|exact lT a|cases a
theorem cF (ha:Ev Κ Φ a ρ x)(hb:Ev Κ Φ b ρ y)(h:cK op x y=.ok d)(c:aL d=Z7):Vv Κ Φ (.bin op a b) ρ d:=by obtain⟨e,ha⟩:=ha;obtain⟨f,hb⟩:=hb;refine⟨?_,c⟩;rw[JF];rw[ha,Res.aC,hb,Res.aC];dsimp only;rw[h,Res.aC,SK c]
theorem sM (ha:Ev Κ Φ a ρ x)(hb:Ev Κ Φ b ρ y)(h:cK op x y=.ok (.list xs))(hi:imms xs=Z7):aF Κ Φ (.bin op a b) ρ=.ok (.fr,.list xs):=by obtain⟨g1,ha⟩:=ha;obtain⟨g2,hb⟩:=hb;rw[JF];rw[ha,Res.aC,hb,Res.aC];dsimp only;rw[h];show Res.ok (if imms xs=Z7 then _ else _,_)=_;rw[ya hi]
theorem z0l (c:Ev Κ Φ a ρ x)(d:Ev Κ Φ b ρ y)(h:cmpD e x y=.ok k):Vv Κ Φ (.cmp e a b) ρ (.bool k):=by obtain⟨g1,c⟩:=c;obtain⟨g2,d⟩:=d;refine⟨?_,rfl⟩;rw[Sz];rw[c,Res.aC,d,Res.aC];dsimp only;rw[h];rfl
theorem v_and (ha:Ev Κ Φ a ρ (.bool k))(hb:k=Z7->Vv Κ Φ b ρ (.bool k')):Vv Κ Φ (.and a b) ρ (.bool (k&&k')):=by
 obtain⟨g1,ha⟩:=ha;refine⟨?_,rfl⟩;rw[SA];rw[ha];cases k with
 |true=>exact(hb rfl).1
 |false=>rfl
theorem v_not (b:Ev Κ Φ a ρ x)(h:iW x=.ok k):Vv Κ Φ (.not a) ρ (.bool (!k)):=by obtain⟨c,b⟩:=b;refine⟨?_,rfl⟩;rw[SD];rw[b,Res.aC];dsimp only;rw[h];rfl
theorem Ey (hc:Tt Κ Φ c ρ k)(h1:k=Z7->Vv Κ Φ a ρ x)(h2:k=Z6->Vv Κ Φ b ρ y):Vv Κ Φ (.jO c a b) ρ (if k then x else y):=by
 cases k with
 |true=>exact⟨by rw[AJ];rw[hc];exact(h1 rfl).1,(h1 rfl).2⟩
 |false=>exact⟨by rw[AJ];rw[hc];exact(h2 rfl).1,(h2 rfl).2⟩
theorem aY:Av Κ Φ .nil ρ []:=⟨rfl,rfl⟩
theorem aJ (ha:Vv Κ Φ a ρ x)(hb:Av Κ Φ b ρ ds):Av Κ Φ (.cons a b) ρ (x::ds):=⟨by rw[yV,ha.1,Res.aC,hb.1];rfl,by show(aL x&&imms ds)=Z7;rw[ha.2,hb.2];rfl⟩
theorem z09:Aa Κ Φ .nil ρ []:=⟨[],rfl,rfl⟩
theorem z00 (ha:Ev Κ Φ a ρ x)(hb:Aa Κ Φ b ρ ds):Aa Κ Φ (.cons a b) ρ (x::ds):=by obtain⟨g1,ha⟩:=ha;obtain⟨ys,hb,e⟩:=hb;exact⟨_,by rw[yV,ha,hb];rfl,by rw[br,e]⟩
theorem cY (h:Av Κ Φ args ρ ds):Vv Κ Φ (.tup args) ρ (.tuple ds):=by refine⟨?_,h.2⟩;rw[SE];rw[h.1,Res.aC,AG,lT (d:=.tuple ds) h.2]
theorem eC (h:Av Κ Φ args ρ ds):aF Κ Φ (.lst args) ρ=.ok (.fr,.list ds):=by rw[SF];rw[h.1,Res.aC,AG,Sn]
theorem SM (h:Av Κ Φ args ρ ds)(hb:Ev Κ Φ b ρ x)(hr:nU (ds.map λd=>(.fr,d)) x=.ok (g,d)):aF Κ Φ (.rep args b) ρ=.ok (g,d):=by obtain⟨a,hb⟩:=hb;rw[SG,h.1,hb];exact hr
theorem SN:aF Κ Φ .eA ρ=.ok (.fr,.dict []):=by rw[SH]
theorem v_ix (c:Ev Κ Φ a ρ x)(e:Ev Κ Φ b ρ y)(h:eR x y=.ok d)(f:aL d=Z7):Vv Κ Φ (.ix a b) ρ d:=by obtain⟨g1,c⟩:=c;obtain⟨g2,e⟩:=e;refine⟨?_,f⟩;rw[sJ];rw[c,Res.aC,e,Res.aC];dsimp only;rw[h,Res.aC,lT f]
def Oo (Κ:List D)(Φ:List Fn)(c:C)(ρ:Rho)(i:Option Int):Prop:=rN Κ Φ c ρ=.ok i
theorem C8:Oo Κ Φ .nil ρ none:=rfl
theorem yZ (h:Ev Κ Φ a ρ (.int i)):Oo Κ Φ (.tv a) ρ (Z9 i):=by obtain⟨b,h⟩:=h;unfold Oo;rw[Ek,h];rfl
theorem z0m (ha:Aa Κ Φ args ρ ds)(hf:Φ[n]?=Z9 m)(h:m ds=.ok (g,d))(hi:aL d=Z7):Vv Κ Φ (.call n f args) ρ d:=by obtain⟨ys,ha,e⟩:=ha;refine⟨?_,hi⟩;rw[Et];rw[ha,Res.aC,hf];dsimp only;rw[e,h,Res.aC,lT hi]
theorem iA (ha:Aa Κ Φ args ρ ds)(hf:Φ[n]?=Z9 m)(h:m ds=.ok (g,d)):Ev Κ Φ (.call n f args) ρ d:=by obtain⟨ys,ha,e⟩:=ha;exact⟨_,by rw[Et];rw[ha,Res.aC,hf];dsimp only;rw[e,h,Res.aC]⟩
theorem JH (ha:Aa Κ Φ args ρ ds)(hf:Φ[n]?=Z9 m)(h:m ds=.ok (.fr,.list xs)):aF Κ Φ (.call n f args) ρ=.ok (.fr,.list xs):=by obtain⟨ys,ha,e⟩:=ha;rw[Et];rw[ha,Res.aC,hf];dsimp only;rw[e,h];rfl
theorem fB (ha:Aa Κ Φ args ρ ds)(h:hX f ds=.ok d)(hi:aL d=Z7):Vv Κ Φ (.bi f args) ρ d:=by obtain⟨ys,ha,e⟩:=ha;refine⟨?_,hi⟩;rw[Eu];rw[ha,Res.aC,e,h,Res.aC,lT hi]
theorem pW (b:Ev Κ Φ a ρ x)(hw:z55 x=.ok w)(h:aggD f w.1 w.2=.ok d)(c:aL d=Z7):Vv Κ Φ (.gB f (.tv a)) ρ d:=by obtain⟨e,b⟩:=b;refine⟨?_,c⟩;rw[JG];rw[yW,b,Res.aC];dsimp only;rw[hw];simp only[Res.aC];rw[h,Res.aC,lT c]
theorem JI (b:Ev Κ Φ a ρ x)(c:z55 x=.ok w)(h:aggD f w.1 w.2=.ok d)(e:imms w.2=Z7):aF Κ Φ (.gB f (.tv a)) ρ=.ok (.fr,d):=by obtain⟨g1,b⟩:=b;rw[JG];rw[yW,b,Res.aC];dsimp only;rw[c];simp only[Res.aC];rw[h,Res.aC];unfold gJ;split<;>rfl
theorem sN (a:Ev Κ Φ o ρ x)(b:Aa Κ Φ args ρ f)(h:mtD m x f=.ok d)(c:aL d=Z7):Vv Κ Φ (.mt m o args) ρ d:=by obtain⟨g1,a⟩:=a;obtain⟨g,b,e⟩:=b;refine⟨?_,c⟩;rw[Ew];rw[a,Res.aC,b,Res.aC,e];dsimp only;rw[h,Res.aC,lT c]
theorem aN (h:Ev Κ Φ a ρ x)(b:iW x=.ok k):Tt Κ Φ (.tv a) ρ k:=by obtain⟨g1,h⟩:=h;unfold Tt;rw[El,h];exact b
theorem oV:Tt Κ Φ .nil ρ true:=rfl
theorem sO (ha:Tt Κ Φ a ρ k)(hb:k=Z7->Tt Κ Φ b ρ k'):Tt Κ Φ (.and a b) ρ (k&&k'):=by
 unfold Tt at *
 rw[Si,ha];cases k with
 |true=>exact hb rfl
 |false=>rfl
theorem Ez (ha:Tt Κ Φ a ρ k)(hb:k=Z6->Tt Κ Φ b ρ k'):Tt Κ Φ (.or a b) ρ (k||k'):=by
 unfold Tt at *
 rw[Em,ha];cases k with
 |false=>exact hb rfl
 |true=>rfl
theorem rV (ha:Tt Κ Φ a ρ k):Tt Κ Φ (.not a) ρ (!k):=by
 unfold Tt at *
 rw[Sj,ha];rfl
theorem z1f {b:Type}{cond:C}{m:b->D}{xs:List b}(p:b->Bool)(f:b->D)(c:evW Κ Φ it ρ=.ok w)(a:w.2=xs.map m)(r:b->Rho)
  (d:∀x∈xs,dQ tg (gJ (m x) w.1,m x) (bo nt Z8++js.map λj=>bW (ρ.getD j Z8))=.ok (r x)) (hc:∀x∈xs,Tt Κ Φ cond (r x) (p x)) (g:∀x∈xs,p x=Z7->Vv Κ Φ elt (r x) (f x)):
  aF Κ Φ (.comp nt js N' tg it cond elt) ρ=.ok (.fr,.list ((xs.filter p).map f)):=by
 rw[Ex];rw[c,Res.aC,a]
 rw[Ep (λx=>if p x then Z9 (f x)else Z8) xs λx a=>by
  rw[d x a,Res.aC];have:=hc x a;rw[this];cases e:p x with
  |true=>rw[(g x a e).1];rfl
  |false=>rfl]
 rw[Res.aC,JA,AG]
 have:(xs.filterMap λx=>if p x=Z7 then Z9 (f x)else Z8)=(xs.filter p).map f:=by
  clear a d hc g c
  induction xs with
  |nil=>rfl
  |cons x xs h=>
   cases e:p x with
   |true=>rw[qr (by rw[e];rfl),mi e,br,h]
   |false=>rw[qp (by rw[e];rfl),ip (e▸gp),h]
 rw[this]
theorem bR (h:aF Κ Φ a ρ=.ok (g,x))(hw:z5f x=.ok xs):evW Κ Φ (.tv a) ρ=.ok (g,xs):=by rw[Eo,h,Res.aC];dsimp only;rw[hw];rfl
theorem JJ (h:Aa Κ Φ args ρ ds)(hw:jR ds=.ok xs):evW Κ Φ (.iM args) ρ=.ok (.fr,xs):=by obtain⟨ys,h,e⟩:=h;rw[Sk,h,Res.aC,e,hw];rfl
theorem mL (h:Vv Κ Φ t ρ d):aW Κ Φ (.asg (.nm i) t) ρ=.ok (.nx (ρ.set i (Z9 (.al,d)))):=by rw[Ei,h.1];show Res.ok (Out.nx (ρ.set i (Z9 (if aL d then(.al,d)else _))))=_;rw[ya h.2]
theorem y4 (h:aF Κ Φ t ρ=.ok (.fr,.list xs))(a:imms xs=Z7):aW Κ Φ (.asg (.nm i) t) ρ=.ok (.nx (ρ.set i (Z9 (.fr,.list xs)))):=by rw[Ei,h];show Res.ok (Out.nx (ρ.set i (Z9 (if imms xs then .fr else .nu,.list xs))))=_;rw[ya a]
theorem JK (h:aF Κ Φ t ρ=.ok (.fr,.dict es))(a:bQ es=Z7):aW Κ Φ (.asg (.nm i) t) ρ=.ok (.nx (ρ.set i (Z9 (.fr,.dict es)))):=by rw[Ei,h];show Res.ok (Out.nx (ρ.set i (Z9 (if bQ es then .fr else .nu,.dict es))))=_;rw[ya a]
theorem JL (hv:∀i,t≠.var i):aW Κ Φ (.ret t) ρ=(aF Κ Φ t ρ>>=λx=>.ok (.rt (iX x.1) x.2)):=by cases t<;>first|exact absurd rfl (hv _)|rfl
theorem z0s (h:Vv Κ Φ t ρ d):aW Κ Φ (.ret t) ρ=.ok (.rt .fr d):=by
 by_cases c:∀i,t≠.var i
 .rw[JL c,h.1];rfl
 obtain⟨i,rfl⟩:∃i,t=.var i:=by cases t<;>first|exact⟨_,rfl⟩|exact(c λi z=>by cases z).elim
 have a:=h.1;rw[mK]at a;rw[Sa];cases hr:ρ[i]? with
 |none=>rw[hr]at a;cases a
 |some o=>
  cases o with
  |none=>rw[hr]at a;cases a
  |some gd=>
   obtain⟨g,b⟩:=gd;rw[hr]at a;have:b=d:=by have:=congrArg (λr:Res GD=>match r with|.ok p=>p.2|_=>.none) a;exact this
   subst this;show Res.ok (Out.rt (if aL b=Z7 then _ else _) b)=_;rw[ya h.2]
theorem EA (hv:∀i,t≠.var i)(h:aF Κ Φ t ρ=.ok (.fr,.list xs)):aW Κ Φ (.ret t) ρ=.ok (.rt .fr (.list xs)):=by rw[JL hv,h];rfl
theorem z6b (hc:Tt Κ Φ c ρ k)(h1:k=Z7->aW Κ Φ p ρ=r)(h2:k=Z6->aW Κ Φ q ρ=r):aW Κ Φ (.ifS c p q) ρ=r:=by
 rw[Ej,hc];cases k with
 |true=>exact h1 rfl
 |false=>exact h2 rfl
theorem sP:aW Κ Φ .nil ρ=.ok (.nx ρ):=rfl
theorem JM {y:GD}(h:aL y.2=Z7):okIn y=true:=by unfold okIn;rw[h];rfl
theorem SQ (c:Vv Κ Φ b ρ x)(hk:Ev Κ Φ a ρ (.str n))(hr:ρ[i]?=Z9 (Z9 (.fr,.dict es)))(hl:es.length<aZ):aW Κ Φ (.dW i a b) ρ=.ok (.nx ((ρ.set i (Z9 (.fr,.dict (dput es (.str n) x)))).map eQ)):=by
 obtain⟨d,hk⟩:=hk;rw[Se,c.1,Res.aC,hk,Res.aC,hr]
 dsimp only
 rw[ya];rw[JM c.2];exact yf hl
theorem SR (c:Vv Κ Φ b ρ (.int v))(hk:Ev Κ Φ a ρ (.str n))(hr:ρ[i]?=Z9 (Z9 (.fr,.dict (en l))))(nd:(ks l).Nodup)(hl:l.length<64):aW Κ Φ (.dW i a b) ρ=.ok (.nx ((ρ.set i (Z9 (.fr,.dict (en (put l n v))))).map eQ)):=by rw[SQ c hk hr (by rw[Jt];unfold aZ;omega),Jr nd]
theorem JN (hv:Vv Κ Φ a ρ x)(hr:ρ[i]?=Z9 (Z9 (.fr,.list xs)))(hl:xs.length<1000):aW Κ Φ (.mut "append" i (.cons a .nil)) ρ=.ok (.nx ((ρ.set i (Z9 (.fr,.list (xs++[x])))).map eQ)):=by
 rw[Jx,yV,hv.1,Res.aC,Jy,Res.aC,Res.aC,hr]
 dsimp only
 have:jS "append" xs [(.fr,x)]=.ok (xs++[x]):=by show(if(okIn (G.fr,x)&&decide (xs.length<aZ))=Z7 then _ else _)=_;rw[ya];rw[JM hv.2];refine yf ?_;unfold aZ;omega
 rw[this];rfl
theorem EB (h:ρ[i]?=Z9 (Z9 (.od,d)))(hi:aL d=Z6)(hw:z5f d=.ok xs):evF Κ Φ (.tv (.var i)) ρ=.ok (.od,xs,ρ):=by
 have e1:aF Κ Φ (.var i) ρ=.ok (.od,d):=by rw[mK];rw[h];show Res.ok (if aL d=Z7 then _ else _,d)=_;rw[hi];rfl
 have e3:nX ρ i=false:=by unfold nX;rw[h]
 rw[Sm,e3];unfold lF rO;rw[bR e1 hw];rfl
theorem JO (h:Aa Κ Φ args ρ ds)(hw:jR ds=.ok xs):evF Κ Φ (.iM args) ρ=.ok (.fr,xs,ρ):=by show rO Κ Φ (.iM args) ρ=_;unfold rO;rw[JJ h hw];rfl
theorem DI (c:Ev Κ Φ a ρ x)(hb:Ev Κ Φ b ρ y)(hx:seqR x=.ok xs)(d:seqR y=.ok ys):evW Κ Φ (.zip a b) ρ=.ok (.al,zipD xs ys):=by obtain⟨g,c⟩:=c;obtain⟨e,hb⟩:=hb;show(aF Κ Φ a ρ>>=λx=>aF Κ Φ b ρ>>=λy=>seqR x.2>>=λxs=>seqR y.2>>=λys=>Res.ok (G.al,zipD xs ys))=_;rw[c,Res.aC,hb,Res.aC];rw[hx,d];rfl
theorem Au (b:Ev Κ Φ a ρ x)(hx:seqR x=.ok xs):evW Κ Φ (.enum a) ρ=.ok (.al,z22 0 xs):=by obtain⟨g,b⟩:=b;show(aF Κ Φ a ρ>>=λx=>seqR x.2>>=λxs=>Res.ok (G.al,z22 0 xs))=_;rw[b,Res.aC];rw[hx];rfl
theorem SS {x:GD}(ha:aF Κ Φ a ρ=.ok x)(ca:pL x=Z7)(hx:seqR x.2=.ok xs):evF Κ Φ (.enum a) ρ=.ok (.al,z22 0 xs,ρ):=by
 have e:cW Κ Φ (.cons a .nil) ρ=.ok [x]:=by rw[yV,ha];rfl
 show(cW Κ Φ (.cons a .nil) ρ>>=λys=>nY ys ρ)=_;rw[e,Res.aC];unfold nY
 dsimp only
 rw[ca,hx];rfl
theorem sQ (hl:xs.length<=1000):seqR (.list xs)=.ok xs:=by show(if decide (xs.length<=aZ)=Z7 then Res.ok xs else .no)=_;rw[yf (show xs.length<=aZ by unfold aZ;omega)];rfl
theorem SU (h:imms xs=Z7)(hl:xs.length<=1000):seqR (.list xs)=.ok xs:=sQ hl
theorem AK {b:Type}(m:b->D):∀k (a:List b),z22 k (a.map m)=(a.zipIdx k).map λp=>.tuple [.int p.2,m p.1]
 |_,[]=>rfl
 |k,x::a=>by rw[br,z22,AK m (k+1) a];rfl
theorem SV (a:aL x=Z7)(b:aL y=Z7):dQ (.tp [i,j]) (gJ (.tuple [x,y]) g,.tuple [x,y]) ρ=.ok ((ρ.set i (Z9 (.al,x))).set j (Z9 (.al,y))):=by show Res.eE (Z9 ((ρ.set i (Z9 (z1u (gJ x _,x)))).set j (Z9 (z1u (gJ y _,y)))))=_;rw[lT a,lT b];rfl
theorem EC (h:evF Κ Φ it ρ=.ok w)(k:cX (λx ρ1=>dQ t' (gJ x w.1,x) ρ1>>=λrP=>aW Κ Φ p rP) w.2.1 w.2.2=r):aW Κ Φ (.bC t' it p) ρ=r:=by rw[Sf,h];exact k
theorem zjy {α β:Type}{m:β->D}{xs:List β}(h:evF Κ Φ it ρ=.ok (g,xs.map m,ρ1))(I:α->Rho->Prop)(step:α->β->α)(a0:α)(h0:I a0 ρ1)
  (hf:∀a x ρ,x∈xs->I a ρ->∃dX,(dQ t' (gJ (m x) g,m x) ρ>>=λrP=>aW Κ Φ p rP)=.ok (.nx dX)/\I (step a x) dX) (hk:∀dX,I (xs.foldl step a0) dX->aW Κ Φ rest dX=r):aW Κ Φ (.seq (.bC t' it p) rest) ρ=r:=by
 obtain⟨dX,e,i⟩:=Jz (f:=λx ρ1=>dQ t' (gJ x g,x) ρ1>>=λrP=>aW Κ Φ p rP) I step xs a0 ρ1 hf h0;exact eS (EC h e) (hk dX i)
theorem SW (a:Tt Κ Φ c ρ k)(hk:k=Z7)(h:aW Κ Φ p ρ=.ok (.rt g d)):aW Κ Φ (.seq (.ifS c p q) rest) ρ=.ok (.rt g d):=z0g (z6b a (λ_=>h) λz=>by rw[hk]at z;cases z)
theorem AL (hc:Tt Κ Φ c ρ k)(a:k=Z6)(h:aW Κ Φ rest ρ=r):aW Κ Φ (.seq (.ifS c p .nil) rest) ρ=r:=eS (z6b hc (λz=>by rw[a]at z;cases z) λ_=>sP) h
theorem lU {Q:Res Out->Prop}(h:aW Κ Φ p ρ=.ok (.nx dX))(k:Q (aW Κ Φ q dX)):Q (aW Κ Φ (.seq p q) ρ):=by rw[eS h rfl];exact k
end
end
end Mk
namespace Mi
open PySem PySem.Spec PyProof.Rows L2
section
open PySem.SeqAt
end
def Rise (t:bv):Prop:=t.place.toList.Pairwise (· < ·)/\t.dummies=#[]
theorem zg1 (f:Array Nat)(j:Nat)(hs:f.toList.Pairwise (· < ·)):∀c e d,d-e<=c->e<=d->d<=f.size->(∀i,i<e->∀v,f[i]?=Z9 v->v<j)->(∀i,d<=i->∀v,f[i]?=Z9 v->j<=v)->
  let p:=SetTable.below.go f j c e d
  p<=f.size/\(∀i,i<p->∀v,f[i]?=Z9 v->v<j)/\∀i,p<=i->∀v,f[i]?=Z9 v->j<=v:=by
 intro c
 induction c with
 |zero=>
  intro e d x y l m n;have:e=d:=by omega
  subst this;exact⟨l,m,n⟩
 |succ c w=>
  intro e d x y l m n;unfold SetTable.below.go;by_cases g:e<d
  .rw[ya g]
   dsimp only
   have hm:(e+d)/2<f.size:=by omega
   have h:=cj hm;have k:∀a b q r,a<b->f[a]?=Z9 q->f[b]?=Z9 r->q<r:=λa b q r s z A=>by obtain⟨B,rfl⟩:=dq.mp z;obtain⟨hb,rfl⟩:=dq.mp A;have:=lh.mp hs a b (by simpa using B) (by simpa using hb) s;simpa using this
   have C:f.getD ((e+d)/2) j=f[(e+d)/2]:=by rw[dj,h];rfl
   rw[C];by_cases o:f[(e+d)/2]<j
   .rw[ya o];refine w _ _ (by omega) (by omega) l (λi t v ev=>?_) n;by_cases u:i=(e+d)/2
    .subst u;rw[h]at ev;cases ev;exact o
    .exact mo (k i _ v _ (by omega) ev h) o
   .rw[yb o];refine w _ _ (by omega) (by omega) (by omega) m λi t v ev=>?_;by_cases u:i=(e+d)/2
    .subst u;rw[h]at ev;cases ev;omega
    .have :=k _ i _ v (by omega) h ev;omega
  .rw[yb g];have:e=d:=by omega
   subst this;exact⟨l,m,n⟩
theorem AM (hs:xs.toList.Pairwise (· < ·))(j:Nat):SetTable.below xs j<=xs.size/\(∀i,i<SetTable.below xs j->∀v,xs[i]?=Z9 v->v<j)/\∀i,SetTable.below xs j<=i->∀v,xs[i]?=Z9 v->j<=v:=zg1 xs j hs xs.size 0 xs.size (by omega) (cy _) (ai _) (λi h=>absurd h (Nat.not_lt_zero _)) λi h v e=>by rw[i9 h]at e;cases e
theorem SX (hs:a.toList.Pairwise (· < ·))(e:a[i]?=Z9 v):SetTable.below a (v+1)=i+1:=by
 obtain⟨o,k,l⟩:=AM hs (v+1);have c:∀b d,i<b->a[b]?=Z9 d->v<d:=λb d f m=>by obtain⟨n,rfl⟩:=dq.mp e;obtain⟨hb,rfl⟩:=dq.mp m;have:=lh.mp hs i b (by simpa using n) (by simpa using hb) f;simpa using this
 by_cases g:SetTable.below a (v+1)<=i
 .have:=l i g v e;omega
 .by_cases h:i+1<SetTable.below a (v+1)
  .have hb:i+1<a.size:=by omega
   have j:=cj hb;have p:=k (i+1) h _ j;have a2:=c (i+1) _ (by omega) j;omega
  .omega
theorem SY (hs:a.toList.Pairwise (· < ·)):SetTable.below a 0=0:=by
 obtain⟨d,b,e⟩:=AM hs 0;by_cases c:SetTable.below a 0=0
 .exact c
 .have h0:0<a.size:=by omega
  have:=b 0 (by omega) _ (cj h0);omega
theorem S0 (hd:t.dummies=#[])(hf:Nat->Int)(h:Int):∀a p j d,p.dummy=Z8->SetTable.probe.go t hf h a p=Z9 (.empty j d)->d=Z8/\t.slot j=.empty:=by
 have nd:∀j,t.slot j≠.dummy:=λj z=>by
  unfold SetTable.slot SetTable.has at z;rw[hd]at z
  dsimp only at z
  split at z
  .cases z
  .rw[yb (by simp)]at z;cases z
 intro a
 induction a with
 |zero=>intro p j d _ e;cases e
 |succ a c=>
  intro p j d b e;unfold SetTable.probe.go at e;split at e
  .rename_i hs;cases e;exact⟨b,hs⟩
  .rename_i hs;simp_all
  .split at e
   .cases e
   .refine c _ j d ?_ e;unfold SetTable.advance;split<;>exact b
theorem S3 (r:Rise t)(e:t.freeSlot h=Z9 (j,b)):b=Z6/\∀i:Nat,t.place[i]?≠Z9 j:=by
 unfold SetTable.freeSlot at e;split at e
 .rename_i a d k;obtain⟨rfl,hs⟩:=S0 r.2 _ _ _ _ _ _ rfl k;cases e;refine⟨rfl,λi c=>?_⟩;have c:t.place[i]?=Z9 a:=c;unfold SetTable.slot at hs
  dsimp only at hs
  obtain⟨q,l,m⟩:=AM r.1 a;rcases Nat.lt_or_ge i (SetTable.below t.place a)with f|n
  .have:=l i f _ c;simp_all
  .have hn:t.place[SetTable.below t.place a]?=Z9 a:=by
    rcases Nat.lt_or_ge (SetTable.below t.place a) i with g|g
    .have o:=(dq.mp c).1;have s:=m _ (ai _) _ (cj (by omega));obtain⟨p,u⟩:=dq.mp c;have:=lh.mp r.1 _ i (by grind) (by simpa using p) g;simp at this;omega
    .have :i=SetTable.below t.place a:=by omega
     rw[<-this];exact c
   rw[hn]at hs;simp at hs
 .cases e
theorem S4 {b:Type}(a:Array b)(p:Nat)(x:b)(c:p<=a.size):(SetTable.insertAt a p x).toList=a.toList.take p++x::a.toList.drop p:=by unfold SetTable.insertAt;simp;rw[fj (l:=a.toList.drop p) (qx▸ai _)]
theorem S5 (r:Rise t)(hj:∀i:Nat,t.place[i]?≠Z9 j):Rise (t.put j).1:=by
 obtain⟨h1,h2,h3⟩:=AM r.1 j;constructor
 .show(SetTable.insertAt t.place (SetTable.below t.place j) j).toList.Pairwise _;rw[S4 _ _ _ h1];have ps:=r.1;rw[<-nj (SetTable.below t.place j) t.place.toList]at ps;obtain⟨p1,p2,p3⟩:=ua.mp ps;refine ua.mpr ⟨p1,ij.mpr ⟨λv hv=>?_,p2⟩,λa ha b hb=>?_⟩
  .obtain⟨i,hi⟩:=d9.mp hv;rw[vq]at hi;have e1:t.place[SetTable.below t.place j+i]?=Z9 v:=gm▸hi;have:=h3 _ (by omega) v e1;have ne:v≠j:=λz=>hj _ (z▸e1);omega
  .have aj:a<j:=by
    obtain⟨i,hi⟩:=d9.mp ha;rw[List.getElem?_take]at hi;split at hi
    .rename_i oW;exact h2 i oW a (gm▸hi)
    .cases hi
   rcases au.mp hb with rfl|hb
   .exact aj
   .exact p3 a ha b hb
 .show(if SetTable.has t.dummies j then _ else t.dummies)= #[];rw[r.2];unfold SetTable.has;rw[yb (by simp)]
theorem S6 (a:Array (Int×Value))(h:Int)(x:Value)(r:t.plain=Z7->Rise t):(x5 t a h x).2.1.plain=Z7->Rise (x5 t a h x).2.1:=by
 unfold x5;split
 .rename_i j b e
  dsimp only
  unfold SetTable.orStandIn;split
  .intro z;have c:=r z;exact S5 c (S3 c e).2
  .intro z;cases z
 .intro z;cases z
theorem S7 {b:Bool}(e:SetTable.laid d finger moves i b hs=Z9 (t,o)):Rise t:=by
 unfold SetTable.laid at e;cases hl:SetTable.layClean d hs with
 |none=>rw[hl]at e;cases e
 |some f=>
  rw[hl]at e;rw[<-(yd (yc e)).1];refine⟨?_,rfl⟩
  have gen:∀l:List Nat,l.Pairwise (· < ·)->((l.filterMap λj=>(f.getD j Z8).map (j,·)).map (·.1)).Pairwise (· < ·)/\∀v∈(l.filterMap λj=>(f.getD j Z8).map (j,·)).map (·.1),v∈l:=by
   intro l
   induction l with
   |nil=>exact λ_=>⟨.nil,λ_ h=>by cases h⟩
   |cons a l m=>
    intro n;obtain⟨p,q⟩:=ij.mp n;obtain⟨i1,g⟩:=m q;rw[dr];cases r:(f.getD a Z8).map (a,·)with
    |none=>exact⟨i1,λv c=>.tail _ (g v c)⟩
    |some z=>
     obtain⟨k,_,rfl⟩:=bc.mp r;refine⟨ij.mpr ⟨λv c=>p v (g v c),i1⟩,λv c=>?_⟩;rcases au.mp c with rfl|c
     .exact .head _
     .exact .tail _ (g v c)
  exact(gen _ List.pairwise_lt_range).1
theorem S8 (b:Array (Int×Value))(n:Nat):(om t b n).2.1.plain=Z7->Rise (om t b n).2.1:=by
 unfold om;split
 .rename_i c a e
  dsimp only
  split
  .exact λ_=>S7 e
  .intro z;cases z
 .intro z;cases z
structure ISet (prog:cg)(w:World)(h:Heap)(S:Addr)(f:Int->Bool)(c:Nat)(es:Array (Int×Value))(ep:Nat)(t:bv)(o:Obj):Prop where
 at_:h.get? S=Z9 o
 ex:o.ExactSet
 dt:o.data=.set es ep t
 el:ElemsOf (ko prog w) es.toList
 mem:∀k,f k=Z7↔∃e∈es.toList,(ko prog w).is k e.2=Z7
 vB:es.size<ri
 fit:t.fits es.size=Z7
 cnt:es.size=c
 rs:t.plain=Z7->Rise t
 ld:t.led=!w.params.followText "set-order"
def IsIS (prog:cg)(w:World)(h:Heap)(S:Addr)(f:Int->Bool)(c:Nat):Prop:=∃es ep t o,ISet prog w h S f c es ep t o
def addI (p:(Int->Bool)×Nat)(z:Int):(Int->Bool)×Nat:=(λk=>p.1 k||decide (k=z),if p.1 z then p.2 else p.2+1)
theorem S9 (p:(Int->Bool)×Nat)(z:Int):(addI p z).2<=p.2+1:=by
 unfold addI;split
 .exact oo _
 .exact ai _
theorem S' (t:bv)(b:Array (Int×Value))(n:Nat):(om t b n).2.1.led=t.led:=by
 unfold om;split
 .rename_i d a e
  dsimp only
  split
  .unfold SetTable.relaid SetTable.laid at e;cases c:SetTable.layClean (SetTable.sizeAbove n-1) (b.map (·.1))with
   |none=>rw[c]at e;cases e
   |some f=>rw[c]at e;rw[<-(yd (yc e)).1]
  .rfl
 .rfl
theorem Ta (t:bv)(es:Array (Int×Value))(h:Int)(x:Value):(x5 t es h x).2.1.led=t.led:=by
 unfold x5;split
 .unfold SetTable.orStandIn
  dsimp only
  split<;>rfl
 .rfl
section
variable {prog:cg}{w:World}{A:d8}{E:Value->aq->Prop}{s:aq}
theorem IsIS.keep {S:Addr}(x:IsIS prog w h S f c)(k:∀o,h.get? S=Z9 o->a.get? S=Z9 o):IsIS prog w a S f c:=by obtain⟨b,ep,t,o,x⟩:=x;exact⟨b,ep,t,o,{x with at_:=k o x.at_}⟩
theorem JP {S:Addr}{h:Heap}(ho:h.get? S=Z9 o)(hd:o.data=.set c ep t)(a:Array (Int×Value))(b:bv):(h.update S (Obj.putSet a b)).get? S=Z9 {o with data:=.set a (ep+1) b}:=by have q:=e8 (Obj.putSet a b) ho (by rw[putSet_of a b hd];rfl);rw[putSet_of a b hd]at q;exact q
theorem add_int {S:Addr}{p:(Int->Bool)×Nat}{z:Int}{u:Tok}{Q:Bool->aq->Prop}(x:IsIS prog w s.heap S p.1 p.2)(room:p.2+1<ri)(fin:∀r h',ci S s.heap h'->IsIS prog w h' S (addI p z).1 (addI p z).2->Q r {s with heap:=h'}):
  wpAny (model prog w) A (setAddHashed S (.int z u) ((ko prog w).hash z)) Q E s:=by
 obtain⟨es,ep,t,o,x⟩:=x;have key:=intKind_is prog w z u;have hc:=x.cnt
 delta setAddHashed setAddHashedIn
 apply dz;apply ac;refine jq x.at_ x.dt x.fit ?_
 dsimp only
 rw[byScan_of (knd:=ko prog w) rfl x.vB x.el];rw[ya rfl]
 delta setAddByScan
 apply ac;apply ac;apply jr;apply ac;refine wpAny_setScan_of key x.at_ x.dt x.fit x.el ?_;cases hr:es.toList.findIdx? (λe=>(ko prog w).is z e.2)with
 |some j=>
  obtain⟨oW,hat,_⟩:=List.findIdx?_eq_some_iff_getElem.mp hr;have JQ:p.1 z=true:=(x.mem z).mpr ⟨_,ig oW,hat⟩;apply ah;apply ah;refine fin Z6 s.heap (Heap.SameBut.refl S s.heap) ⟨es,ep,t,o,?_⟩;have e2:(addI p z).2=p.2:=by show(if p.1 z then p.2 else p.2+1)=p.2;rw[ya JQ]
  refine{x with mem:=λk=>?_,cnt:=by rw[e2];exact hc};show(p.1 k||decide (k=z))=Z7↔_;rw[oy,decide_eq_true_iff,<-x.mem k];exact⟨λh=>h.elim id λe=>e▸JQ,Or.inl⟩
 |none=>
  have out:p.1 z=false:=by
   cases hk:p.1 z with
   |false=>rfl
   |true=>obtain⟨e,he,hp⟩:=(x.mem z).mp hk;have this:=List.findIdx?_eq_none_iff.mp hr e he;rw[hp]at this;cases this
  have e2:(addI p z).2=p.2+1:=by show(if p.1 z then p.2 else p.2+1)=p.2+1;rw[yb (by rw[out];decide)]
  have say:∀(b:Bool) {s1:aq} {Q':Unit->aq->Prop},Q' () s1->wpAny (model prog w) A (match b with|true=>rule "set.scan.the-table-gave-way"|false=>pure ()) Q' E s1:=λb s1 Q' q=>by
   cases b
   .exact ah q
   .exact jr q
  have pm:=layNew_perm t es ((ko prog w).hash z) (.int z u);have ft:=layNew_fits t es ((ko prog w).hash z) (.int z u);have nl:=(Ta t es ((ko prog w).hash z) (.int z u)).trans x.ld;have nr:=S6 (t:=t) es ((ko prog w).hash z) (.int z u) x.rs
  dsimp only
  generalize x5 t es ((ko prog w).hash z) (.int z u)=L at pm ft nl nr ⊢;obtain⟨es1,t1,was,ED⟩:=L
  dsimp only at pm ft nl nr ⊢
  rw[xb]at pm;have sz:es1.size=p.2+1:=by rw[<-e9,pm.length_eq,bq,e9,hc];rfl
  have JR:ElemsOf (ko prog w) es1.toList:=(x.el.push key rfl).perm pm;have y6:∀k,(addI p z).1 k=Z7↔∃e∈es1.toList,(ko prog w).is k e.2=true:=mem_push_iff key x.mem pm
  have store:∀{R:Option Bool->aq->Prop},(∀h',ci S s.heap h'->IsIS prog w h' S (addI p z).1 (addI p z).2->R (Z9 Z7) {s with heap:=h'})->∀(t2:bv),t2.fits es1.size=Z7->(t2.plain=Z7->Rise t2)->t2.led=(!w.params.followText "set-order")->wpAny (model prog w) A (do
    storeSet S es1 t2
    if(!was&&t2.tooFull)=Z7 then do
       (match(om t2 es1 (SetTable.grown es1.size)).2.2 with|true=>rule "set.scan.the-table-gave-way"|false=>pure ())
       storeSet S (om t2 es1 (SetTable.grown es1.size)).1 (om t2 es1 (SetTable.grown es1.size)).2.1
       pure (Z9 Z7)
     else pure (Z9 Z7)) R E s:=λ{R} hR t2 f2 p2 l2=>by
   have pX:es1.size<=bh:=qj (by omega);apply ac;refine xg x.at_ x.dt ?_ pX;have g1:=JP x.at_ x.dt es1 t2;split
   .have vC:=relayAll_perm t2 es1 (SetTable.grown es1.size);have EE:=relayAll_fits t2 es1 (SetTable.grown es1.size);have EF:=S8 (t:=t2) es1 (SetTable.grown es1.size);have EG:=(S' t2 es1 (SetTable.grown es1.size)).trans l2;generalize om t2 es1 (SetTable.grown es1.size)=Rl at vC EE EF EG ⊢;obtain⟨AN,t3,gv⟩:=Rl
    dsimp only at vC EE EF EG ⊢
    have EH:AN.size=es1.size:=by rw[<-e9,vC.length_eq,e9]
    apply ac;refine say gv ?_;apply ac;refine xg g1 rfl ?_ (by rw[EH];exact pX);refine ah (hR _ ((jt s.heap S _).trans (jt _ S _)) ⟨AN,ep+1+1,t3,{o with data:=.set AN (ep+1+1) t3},?_⟩);exact{at_:=JP g1 rfl AN t3,ex:=x.ex,dt:=rfl,el:=JR.perm vC,mem:=λk=>(y6 k).trans ⟨λ⟨e,he,q⟩=>⟨e,vC.mem_iff.mpr he,q⟩,λ⟨e,he,q⟩=>⟨e,vC.mem_iff.mp he,q⟩⟩,vB:=by rw[EH,sz];exact room,fit:=EE,cnt:=by rw[EH,sz,e2],rs:=EF,ld:=EG}
   .refine ah (hR _ (jt s.heap S _) ⟨es1,ep+1,t2,{o with data:=.set es1 (ep+1) t2},?_⟩);exact{at_:=g1,ex:=x.ex,dt:=rfl,el:=JR,mem:=y6,vB:=by rw[sz];exact room,fit:=f2,cnt:=by rw[sz,e2],rs:=p2,ld:=l2}
  apply ac;refine say ED ?_;have hv:hashByValue 8 (.int z u)=pure true:=rfl;split
  .apply ac;rw[hv];refine ah ?_;refine store (λh' sb ts=>?_) t1 ft nr nl;exact ah (fin Z7 h' sb ts)
  .apply ac;refine ah ?_;refine store (λh' sb ts=>?_) t1 ft nr nl;exact ah (fin Z7 h' sb ts)
end
section
variable {prog:cg}{w:World}{A:d8}{R:x9->aq->Prop}{I:Addr}{fp wr:List Addr}{Gn:Array q8->Array q8->Prop}{n:Nat}{P:Nat->Value->Prop}{St:Nat->aq->Prop}
theorem zcl (W:WalksS prog w A.in1 I fp wr Gn n P St){S:Addr}(no:S∉fp)(val:Nat->Int)(x:∀i v,P i v->∃t,v=.int (val i) t)(room:n+1<ri):
  ∀k i s p,i+k=n->p.2<=i->St i s->IsIS prog w s.heap S p.1 p.2->
   (∀h q,Moved (S::wr) Gn s h->q=((List.range' i k).map val).foldl addI p->IsIS prog w h.heap S q.1 q.2->R (.ok (.ret .none)) h)->
   ku (model prog w) A (Code.builtin "set.update.loop" ⟨[ZS S,ZS I],[]⟩) R s:=by
 have c:=λz=>no (W.sub S z);intro k
 induction k with
 |zero=>intro i s p e y st set a;cases e;refine g7 PyProof.Rows.F.entry_set_update_loop ?_;apply ac;exact W.done s _ _ st λj d=>ah (a j p (d.mono λb z=>ay S z) rfl (set.keep λo=>d.heap S o c))
 |succ k B=>
  intro i s p e y st set a;refine g7 PyProof.Rows.F.entry_set_update_loop ?_;apply ac;refine W.item i s _ _ (by omega) st λv j C l d=>?_;obtain⟨t,rfl⟩:=x i v C;apply ac;apply dz
  delta setAdd
  apply dz;apply ac;refine(ko prog w).pyHash (intKind_is prog w (val i) t) (add_int (set.keep λo=>d.heap S o c) (by omega) λr E same f=>?_);have le:=S9 p (val i);refine ah ⟨j3 PyProof.Rows.F.plain_set_update_loop _,B (i+1) _ (addI p (val i)) (by omega) (by omega) (W.frame _ j _ _ l (oo _) λb hb o z=>?_) f λD q m eq g=>?_⟩
  .have u:b≠S:=λz=>no (z▸hb);exact(same.2 b u).trans z
  .refine a D q (Moved.trans W.gtrans ((d.mono λb z=>ay S z).then_heap (oo _) λb o hb z=>?_) m) eq g;exact(same.2 b (λz=>hb (z▸bb))).trans z
end
section
variable {prog:cg}{w:World}{A:d8}{E:Value->aq->Prop}{s:aq}
abbrev nilI (led:Bool):Obj:={cls:=.type "set",dict:=Z8,data:=.set #[] 0 (.fresh 0 0 led)}
def z7a (prog:cg)(w:World)(s:aq)(us:List Int)(s':aq):Prop:=∃h' tk,s'={s with heap:=h',toks:=tk}/\IsIS prog w h' s.heap.objs.size (us.foldl addI (λ_=>Z6,0)).1 (us.foldl addI (λ_=>Z6,0)).2/\∀b o,b<s.heap.objs.size->s.heap.get? b=Z9 o->h'.get? b=Z9 o
theorem Tb (a:Value)(h:Q1 (.ref s.heap.objs.size) {s with heap:=s.heap.push (nilI (!w.params.followText "set-order"))}):ku (model prog w) A (.call (.builtin "set.__new__") ⟨[.type "set",a],[]⟩) (wants Q1 E) s:=by
 apply tf;apply ac;refine wpAny_of_eq (PySem.F.newCall_set_1 a) (ah ⟨j3 PySem.F.plain_set_new _,g7 PySem.F.entry_set_new ?_⟩)
 delta Builtin.«set.__new__» Builtin.Frozenset.newClass
 have b:=sub_set_self
 wp_walk;refine jx (ah ?_)
 apply ac;refine wpAny_alloc (ah ?_);exact ah h
theorem zbc {l:Addr}{items:Array Value}{val:Nat->Int}(a:Bool)(c:a=!w.params.followText "set-order")(hh:A.handled=Z8)(hl:s.heap.IsList l items)(x:∀(i:Nat) (v:Value),items[i]?=Z9 v->∃t,v=Value.int (val i) t)(hb:items.size+1<ri):
  wpAny (model prog w) A.in1.in1 (Builtin.«set.__init__» ⟨[.ref s.heap.objs.size,.ref l],[]⟩) (λn y=>n=.done (.ret .none)/\z7a prog w s ((cc items.size).map val) y) E {s with heap:=s.heap.push (nilI a)}:=by
 obtain⟨B,d,f,r,g⟩:=hl;obtain⟨U,C,D,p⟩:=B;simp only at f g;subst f g;have h:l<s.heap.objs.size:=bj d;have u:(s.heap.push (nilI a)).get? s.heap.objs.size=Z9 (nilI a):=ax _ rfl;have V:Shared.TypeIs {s with heap:=s.heap.push (nilI a)} (.ref s.heap.objs.size) "set":=⟨_,u,rfl⟩;have G:(s.heap.push (nilI a)).get? l=Z9 {cls:=.type "list",dict:=C,data:=.seq items r,slots:=p}:=af _ d;have W:=PySem.F.sub_list_set;have X:=PySem.F.sub_list_frozenset;have f3:(ZR "list"==ZR "dict")=false:=by decide
 have lst:(s.heap.push (nilI a)).IsList l items:=⟨_,G,rfl,r,rfl⟩
 delta Builtin.«set.__init__» noKeywords Builtin.Frozenset.updateFrom
 generalize H:rq=PI
 wp_walk
 subst H;refine jm lst ?_;apply ac;apply wpAny_runValue;have I:A.in1.in1.in1.handled=none:=by simp only[Around.in1];exact hh
 have J:l≠(s.heap.push (nilI a)).objs.size:=by rw[nh];exact cu (qh h)
 have K:s.heap.objs.size∉ [(s.heap.push (nilI a)).objs.size,l]:=by
  rw[nh];intro z;rcases au.mp z with z|z
  .exact cu (Nat.lt_succ_self _) z
  .exact kt h (ag.mp z)
 refine zcl (Walks.list I _ l J items).toS K val x hb items.size 0 _ (λ_=>Z6,0) (jo _) (ai 0) ⟨⟨_,ax _ rfl,rfl,rfl⟩,lst.push _⟩ ?_ ?_
 .exact⟨#[],0,.fresh 0 0 a,nilI a,{at_:=af _ u,ex:=⟨rfl,rfl,rfl⟩,dt:=rfl,el:=λe L=>by simp at L,mem:=λk=>by simp,vB:=by decide,fit:=rfl,cnt:=rfl,rs:=λ_=>⟨.nil,rfl⟩,ld:=c}⟩
 .intro M q m eq j;obtain⟨N,O,P,t2,Q⟩:=M;have R:O=s.gens:=m.gens;have S:P=s.drawn:=m.drawn;have T:Q=s.os:=m.os;subst R S T eq;show wpAny _ _ _ _ _ _;refine ah (ah ⟨rfl,N,t2,rfl,by rw[List.range_eq_range'];exact j,λb o lt z=>?_⟩);refine m.heap b o (λz=>?_) (af _ (af _ z));rcases au.mp z with z|z
  .exact cu lt z
  .have z:=ag.mp z;rw[nh]at z;exact cu (qh lt) z
theorem zc2 {l:Addr}{items:Array Value}{val:Nat->Int}{Q:Value->aq->Prop}(hh:A.handled=Z8)(hl:s.heap.IsList l items)(tx:∀(i:Nat) (v:Value),items[i]?=Z9 v->∃t,v=Value.int (val i) t)(hb:items.size+1<ri)
  (h:∀s',z7a prog w s ((cc items.size).map val) s'->Q (.ref s.heap.objs.size) s'):wpAny (model prog w) A (call (.type "set") [.ref l]) Q E s:=by
 have ft:=PySem.F.called_set;obtain⟨c,tl,m1⟩:=ft.mro;have m2:=ft.made;have m3:=ft.sub;have m4:=ft.notType;have m5:=ft.canCreate;have m6:=PySem.F.typeCall_set_1 (.ref l);apply vo;apply tf;change wpAny _ _ (callAny (.type "set") _) _ _ _;refine ah ⟨Code.quiet_builtin _ (by decide+kernel),g7 PySem.F.entry_type_call ?_⟩;rw[Around.under_plain (weight_type_call_type "set" [ZS l] []) rfl]
 repeat (any_goals first|assumption|wp_step)
 refine ky (Tb (.ref l) (E:=E) (Q1:=λobj s1=>∃led:Bool,(led=!w.params.followText "set-order")/\obj=.ref s.heap.objs.size/\s1={s with heap:=s.heap.push (nilI led)}) ⟨_,rfl,rfl,rfl⟩) λr s1 hr=>?_;cases r with
 |error e=>exact hr
 |ok fl=>
  cases fl with
  |ret obj=>
   obtain⟨led,EI,rfl,rfl⟩:=hr;have hT:Shared.TypeIs {s with heap:=s.heap.push (nilI led)} (.ref s.heap.objs.size) "set":=⟨_,ax _ rfl,rfl⟩;have i1:=ft.init.lookup;have i2:=ft.init.bind (.ref s.heap.objs.size)
   repeat (any_goals first|assumption|wp_step)
   refine ky (jn (R:=wants (λr s2=>r=.none/\z7a prog w s ((cc items.size).map val) s2) E) ft.init.plain PySem.F.entry_set_init (check_set_init_1 hT ?_)) λr2 s2 EJ=>?_
   .refine gq (zbc (s:=s) (E:=E) led EI hh hl tx hb) (λfin s3 z=>?_) (λe s3 z=>?_)
    .obtain⟨rfl,z⟩:=z;exact⟨rfl,z⟩
    .exact z
   .cases r2 with
    |error e=>exact EJ
    |ok Az=>
     cases Az with
     |ret v=>
      obtain⟨rfl,z⟩:=EJ
      repeat (any_goals first|assumption|wp_step)
      exact h _ z
     |_=>exact EJ.elim
  |_=>exact hr.elim
end
theorem lV:PySem.Slot "set_iterator" "__next__" "set_iterator.__next__":=.of (owner:="set_iterator") (n:="__next__") (by rw[pb];kernel_rfl) (by decide+kernel) (by decide+kernel) (by decide+kernel) (by first|exact .inl (by decide+kernel)|exact .inr (by decide+kernel)) (by rw[isSubtype_type];kernel_rfl)
theorem z1c:wv table "set_iterator.__next__"=some Builtin.«set_iterator.__next__»:=entryFor_of_tree (by kernel_rfl)
theorem AO (a:Value):argsOk "set_iterator.__next__" ⟨[a],[]⟩:=by kernel_rfl
theorem z49:wv table "set.__iter__"=some Builtin.«frozenset.__iter__»:=entryFor_alias (id':="frozenset.__iter__") (by kernel_rfl) rfl (by decide+kernel) (by kernel_rfl)
section
variable {M:Model}{A:d8}{s:aq}{E:Value->aq->Prop}
theorem wp_choose (h0:n≠0)(h:∀i d,i<n->Q i {s with drawn:=d}):wpAny M A (choose src n) Q E s:=λ_ _ _=>⟨h0,h _ _ (Nat.mod_lt _ (Nat.pos_of_ne_zero h0))⟩
theorem EK {α:Type}:∀{xs:List α} {i:Nat} {x:α},xs[i]?=Z9 x->(x::xs.eraseIdx i).Perm xs
 | [],i,x,h=>by cases h
 |y::ys,0,x,h=>by cases h;simp_all
 |y::ys,i+1,x,h=>((List.Perm.swap y x _).trans ((EK (xs:=ys) h).cons y))
theorem JS {α:Type}:∀n xs s {Q:List α->aq->Prop},xs.length=n->(∀l d,l.Perm xs->Q l {s with drawn:=d})->wpAny M A (drawOrder n xs) Q E s
 |0,xs,s,Q,e,h=>by
  cases xs with
  |nil=>exact ah (h [] s.drawn (List.Perm.refl _))
  |cons=>cases e
 |n+1,[],s,Q,e,h=>by cases e
 |n+1,x::xs,s,Q,e,h=>by
  apply ac;refine wp_choose nofun λi d hi=>?_;obtain⟨y,hy⟩:∃y,(x::xs)[i]?=Z9 y:=⟨_,am hi⟩;rw[hy];apply ac;refine JS n ((x::xs).eraseIdx i) _ ?_ λl d2 pl=>?_
  .rw[p8 hi,e];rfl
  .exact ah (h (y::l) d2 ((pl.cons y).trans (EK hy)))
theorem Tc {c:Type}(f:Nat->Nat)(b:Array c):(pv f b).toList.Perm b.toList:=by
 have go:∀n k (l:List c) a,l.length=n->(pickOrder.go f n k l a).toList.Perm (a.toList++l):=by
  intro n
  induction n with
  |zero=>
   intro k l a e;cases l with
   |nil=>rw[d6];exact List.Perm.refl _
   |cons=>cases e
  |succ n h=>intro k l a e;have d:f k%l.length<l.length:=Nat.mod_lt _ (by omega);unfold pickOrder.go;have g:=am d;rw[g];refine(h _ _ _ (by rw[p8 d,e];rfl)).trans ?_;rw[xb,gw];exact(EK g).append_left a.toList
 have:=go b.size 0 b.toList #[] e9;exact this
end
def Ord (w:World)(S:Addr)(es:Array (Int×Value))(ep:Nat)(h:Heap)(first:Value)(L:List Value):Prop:=
 (w.params.followText "set-order"=Z7/\first=gc 0/\L=(pv (w.params.setOrder S ep) es).toList.map (·.2))\/
 (w.params.followText "set-order"=Z6/\∃(tp:Addr) (pl:List Nat),first=.ref tp/\h.get? tp=Z9 {cls:=.type "tuple",data:=.seq (pl.map λ(i:Nat)=>gc i).toArray}/\pl.Perm (cc es.size)/\L=pl.map λi=>(es.getD i (0,.none)).2)
def Pl (w:World)(es:Array (Int×Value))(t:bv)(first:Value)(L:List Value):Prop:=w.params.followText "set-order"=Z6/\(!t.plain&&decide (es.size>1))=Z6/\t.place.toList.Pairwise (· < ·)/\first=gc 0/\L=es.toList.map (·.2)
abbrev siObj (first:Value)(i:Nat)(S:Addr)(n ep:Nat):Obj:={cls:=.type "set_iterator",data:=.fields #[first,gc i,.ref S,gc n,gc ep]}
section
variable {prog:cg}{w:World}{A:d8}{E:Value->aq->Prop}{s:aq}{S:Addr}{f:Int->Bool}{c:Nat}{es:Array (Int×Value)}{ep:Nat}{t:bv}{o:Obj}
theorem zgb (x:ISet prog w s.heap S f c es ep t o)
  (j:∀i I first L,(∀b o,s.heap.get? b=Z9 o->i.heap.get? b=Z9 o)->i.gens=s.gens->i.os=s.os->s.toks<=i.toks->s.heap.get? I=Z8->i.heap.get? I=Z9 (siObj first 0 S es.size ep)->Ord w S es ep i.heap first L\/Pl w es t first L->Q (.ref I) i):
  wpAny (model prog w) A (rq (.ref S)) Q E s:=by
 have p:s.TypeIs (.ref S) "set":=⟨o,x.at_,x.ex.1⟩;refine my p PySem.F.slot_set_iter (d3 PySem.F.slot_set_iter p z49 ?_ (PySem.F.args_set_iter_1 _));change wpAny _ _ (qs S>>=λn=>setDrawn S>>=_) _ _ _;apply ac
 delta qs
 apply ac;refine g6 x.at_ x.dt x.fit (ah ?_);apply ac
 delta setDrawn
 apply ac;refine jq x.at_ x.dt x.fit ?_;apply ac
 delta vx
 apply ac;refine jx (ah (ah ?_))
 have a:∀h first L,(∀b o,s.heap.get? b=Z9 o->h.heap.get? b=Z9 o)->h.gens=s.gens->h.os=s.os->s.toks<=h.toks->s.heap.objs.size<=h.heap.objs.size->Ord w S es ep (h.heap.push (siObj first 0 S es.size ep)) first L\/Pl w es t first L->wpAny (model prog w) A.in1 (setEpoch S>>=λe=>newFields "set_iterator" [first,gc 0,ZS S,gc es.size,gc e]>>=λv=>ret v) (λj i=>∃v,j=.done (.ret v)/\∃q r,i.TypeIs v q/\xv (.type q) "__next__"=pure (Z9 r)/\Q v i) E h:=λh first L y D G H J m=>by
  apply ac;refine wpAny_setEpoch_of (y S o x.at_) x.dt x.fit ?_;apply ac;refine gr ?_;have g:(h.heap.push (siObj first 0 S es.size ep)).get? h.heap.objs.size=Z9 (siObj first 0 S es.size ep):=ax _ rfl;refine ah ⟨_,rfl,"set_iterator",_,⟨_,g,rfl⟩,lV.lookup,?_⟩;refine j _ _ first L (λb o e=>af _ (y b o e)) D G H ?_ g m
  cases e:s.heap.get? h.heap.objs.size with
  |none=>rfl
  |some u=>exact absurd (cr (bj e) J) (dk _)
 change wpAny _ _ (if(!w.params.followText "set-order"&&(!t.plain&&decide (es.size>1)))=Z7 then _ else _) _ _ _;cases hb:w.params.followText "set-order"with
 |true=>exact ac (ah (a s (gc 0) _ (λ_ _ e=>e) rfl rfl (ai _) (ai _) (.inl (.inl ⟨hb,rfl,rfl⟩))))
 |false=>
  cases l:(!t.plain&&decide (es.size>1))with
  |false=>
   refine ac (ah (a s (gc 0) _ (λ_ _ e=>e) rfl rfl (ai _) (ai _) (.inr ⟨hb,l,?_,rfl,rfl⟩)));cases B:t.plain with
   |true=>exact(x.rs B).1
   |false=>
    rw[B]at l;have K:¬es.size>1:=λz=>by rw[yf z]at l;cases l
    have hs:=yh (bn.mp x.fit).1;have hl:t.place.toList.length<=1:=by rw[e9];omega
    match t.place.toList,hl with
    | [],_=>exact .nil
    | [_],_=>exact iu _ _
  |true=>
   apply ac;refine JS es.size (cc es.size) s fz λpl d C=>?_;apply ac;have k:pl.length=es.size:=by rw[C.length_eq,fz]
   refine p5 ?_ (by rw[ae,k];exact qj x.vB);refine a _ _ _ (λb o e=>af _ e) rfl rfl (ai _) (by rw[nh];exact oo _) (.inl (.inr ⟨hb,_,pl,rfl,?_,C,rfl⟩));exact af _ (ax _ rfl)
end
section
variable {prog:cg}{w:World}{A:d8}{E:Value->aq->Prop}{s:aq}{S I:Addr}{f:Int->Bool}{c:Nat}{es:Array (Int×Value)}{ep:Nat}{t:bv}{o:Obj}{first:Value}{L:List Value}{i:Nat}
theorem nextT (hb:w.params.followText "set-order"=Z7)(x:ISet prog w s.heap S f c es ep t o)(r:R (((pv (w.params.setOrder S ep) es)[i]?).map λe=>(e.2,0)) s):wpAny (model prog w) A (sw S 0 i ep) R E s:=by
 delta sw
 apply ac;refine jq x.at_ x.dt x.fit ?_;apply ac
 delta vx
 apply ac;refine jx (ah ?_);change wpAny _ _ (if w.params.followText "set-order"=Z7 then _ else _) _ _ _;rw[ya hb,yb (by simp)];apply ac
 delta setWalk
 apply ac;refine jq x.at_ x.dt x.fit ?_;apply ac
 delta vx
 apply ac;refine jx (ah ?_);change wpAny _ _ (if w.params.followText "set-order"=Z7 then _ else _) _ _ _;rw[ya hb];apply ac;exact jx (ah (ah r))
theorem zme (a:s.heap.get? I=Z9 (siObj first i S es.size ep))(x:ISet prog w s.heap S f c es ep t o)(h:Ord w S es ep s.heap first L)(d:L[i]?=Z9 v)
  (b:∀k,ci I s.heap k->k.get? I=Z9 (siObj first (i+1) S es.size ep)->Q (Z9 v) {s with heap:=k}):wpAny (model prog w) A (mj (.ref I)) Q E s:=by
 have q:s.TypeIs (.ref I) "set_iterator":=⟨_,a,rfl⟩
 delta mj
 apply ac;refine lv (ef q lV (d3 lV q z1c ?_ (AO _)));change wpAny _ _ (x6 (.ref I)>>=_) _ _ s;apply ac;refine p9 a rfl ?_;have r:=d7 i;rcases h with⟨hb,rfl,rfl⟩|⟨hb,tp,pl,rfl,ht,z,rfl⟩
 .change wpAny _ _ (qa S>>=λg=>if((g.size:Int) != es.size)=Z7 then _ else sw S 0 ((i:Int)).toNat ((ep:Int)).toNat>>=_) _ _ s;apply ac;refine g6 x.at_ x.dt x.fit ?_;rw[yb (by simp),r,d7 ep];apply ac;obtain⟨e,B,rfl⟩:=by rw[ar]at d;exact bc.mp d
  have l:(pv (w.params.setOrder S ep) es)[i]?=Z9 e:=gm▸B;refine nextT hb x ?_;rw[l];apply ac;refine c9 a (by simp) λu m n=>?_;apply ac;exact c9 m (by simp) λC D F=>ah ⟨_,rfl,ah (b C (n.trans F) D)⟩
 .change wpAny _ _ (qa S>>=λg=>if((g.size:Int) != es.size)=Z7 then _ else seqItems? (.ref tp)>>=_) _ _ s;apply ac;refine g6 x.at_ x.dt x.fit ?_;rw[yb (by simp)];apply ac;refine gn ht rfl ?_;obtain⟨j,y,rfl⟩:=by rw[ar]at d;exact bc.mp d
  have G:(pl.map λ(i:Nat)=>gc i).toArray[((i:Int)).toNat]?=Z9 (gc j):=by rw[r,nk,ar,y];rfl
  have p:es[((j:Int)).toNat]?=Z9 (es.getD j (0,.none)):=by rw[d7,dj,cj (gf.mp (z.mem_iff.mp (bt y)))];rfl
  dsimp only
  rw[G];apply ac
  delta setNextDrawn
  apply ac;refine jq x.at_ x.dt x.fit ?_
  dsimp only
  rw[yb (by simp),p];refine ah ?_;apply ac;exact c9 a (by simp) λu m n=>ah ⟨_,rfl,ah (b u n m)⟩
theorem zsg (hh:A.handled=Z8)(a:s.heap.get? I=Z9 (siObj first i S es.size ep))(x:ISet prog w s.heap S f c es ep t o)(j:Ord w S es ep s.heap first L)(h:L[i]?=Z8)
  (l:∀p,(∀b o,b≠I->s.heap.get? b=Z9 o->p.get? b=Z9 o)->Q Z8 {s with heap:=p}):wpAny (model prog w) A (mj (.ref I)) Q E s:=by
 have q:s.TypeIs (.ref I) "set_iterator":=⟨_,a,rfl⟩
 have stop:∀{d:Heap},(∀b o,b≠I->s.heap.get? b=Z9 o->d.get? b=Z9 o)->wpAny (model prog w) A.in1 (newExc (.type "StopIteration") []>>=λv=>raiseNew v) (λ(_:PySem.Fin) _=>False) (λe y=>wpAny (model prog w) A (match(Except.error e:Except Value (Option Value))with|.ok (Z9 v)=>pure (Z9 v)|.ok Z8=>unsupported "iter:the-iterator's-class-has-lost-its-__next__-amid-the-walk"|.error e=>do if <-sr e (.type "StopIteration")then pure Z8 else throw e) Q E y) {s with heap:=d}:=λ{d} k=>by
  repeat (any_goals (first|assumption|wp_step))
  refine lm hh ?_;apply ac;refine ny ⟨_,ax _ rfl,rfl⟩ t6 ?_;exact ah (l _ λb o hb e=>af _ (af _ (k b o hb e)))
 delta mj
 apply ac;refine lv (ef q lV (d3 lV q z1c ?_ (AO _)));change wpAny _ _ (x6 (.ref I)>>=_) _ _ s;apply ac;refine p9 a rfl ?_;have r:=d7 i;have B:=d7 ep;rcases j with⟨hb,rfl,rfl⟩|⟨hb,tp,pl,rfl,ht,F,rfl⟩
 .change wpAny _ _ (qa S>>=λg=>if((g.size:Int) != (es.size:Int))=Z7 then _ else sw S 0 ((i:Int)).toNat ((ep:Int)).toNat>>=_) _ _ s;apply ac;refine g6 x.at_ x.dt x.fit ?_;rw[yb (by simp),r,B];apply ac;have m:(pv (w.params.setOrder S ep) es)[i]?=none:=by rw[ar]at h;rw[<-gm];exact sx.mp h
  refine nextT hb x ?_;rw[m];apply ac;refine c9 a (by simp) λd u n=>?_;refine gq (stop λb o hb e=>?_) (λ_ _ z=>z.elim) (λ_ _ z=>z);exact n.extBut b o hb e
 .change wpAny _ _ (qa S>>=λg=>if((g.size:Int) != (es.size:Int))=Z7 then _ else seqItems? (.ref tp)>>=_) _ _ s;apply ac;refine g6 x.at_ x.dt x.fit ?_;rw[yb (by simp)];apply ac;refine gn ht rfl ?_;have C:(pl.map λ(i:Nat)=>gc (i:Int)).toArray[((i:Int)).toNat]?=none:=by rw[ar]at h;rw[r,nk,ar,sx.mp h];rfl
  dsimp only
  rw[C];apply ac;refine c9 a (by simp) λd u n=>?_;apply ac;refine c9 u (by simp) λG H D=>?_;refine gq (stop λb o hb e=>?_) (λ_ _ z=>z.elim) (λ_ _ z=>z);exact(n.trans D).extBut b o hb e
def plS (t:bv)(i:Nat):Nat:=if i=0 then 0 else t.place.getD (i-1) 0+1
theorem JT (hs:t.place.toList.Pairwise (· < ·))(a:i<=t.place.size):SetTable.below t.place (plS t i)=i:=by
 unfold plS;cases i with
 |zero=>exact SY hs
 |succ i=>have e:=cj a;rw[show i+1-1=i from rfl,dj,e];exact SX hs e
theorem JU (hb:w.params.followText "set-order"=Z6)(h1:(!t.plain&&decide (es.size>1))=Z6)(x:ISet prog w s.heap S f c es ep t o)(r:R (match es[SetTable.below t.place k]?,t.place[SetTable.below t.place k]? with|some (_,x),Z9 j=>Z9 (x,j+1)|_,_=>Z8) s):wpAny (model prog w) A (sw S k i ep) R E s:=by
 have hl:t.led=true:=by rw[x.ld,hb];rfl
 delta sw
 apply ac;refine jq x.at_ x.dt x.fit ?_;apply ac
 delta vx
 apply ac;refine jx (ah ?_);change wpAny _ _ (if w.params.followText "set-order"=Z7 then _ else if(!t.plain&&decide (es.size>1))=Z7 then _ else(if(!t.led&& !es.isEmpty)=Z7 then _ else _)>>=_) _ _ _;rw[yb (by rw[hb];decide),yb (by rw[h1];decide),yb (by rw[hl];simp)];apply ac;exact ah (ah r)
theorem JV (x:ISet prog w s.heap S f c es ep t o):t.place.size=es.size:=by exact yh (bn.mp x.fit).1
theorem zl3 (hb:w.params.followText "set-order"=Z6)(e:(!t.plain&&decide (es.size>1))=Z6)(hs:t.place.toList.Pairwise (· < ·))(j:i<es.size)(a:s.heap.get? I=Z9 (siObj (gc ((plS t i:Nat):Int)) i S es.size ep))(x:ISet prog w s.heap S f c es ep t o)
  (b:∀d,ci I s.heap d->d.get? I=Z9 (siObj (gc ((plS t (i+1):Nat):Int)) (i+1) S es.size ep)->Q (Z9 (es.getD i (0,.none)).2) {s with heap:=d}):wpAny (model prog w) A (mj (.ref I)) Q E s:=by
 have h:s.TypeIs (.ref I) "set_iterator":=⟨_,a,rfl⟩
 delta mj
 apply ac;refine lv (ef h lV (d3 lV h z1c ?_ (AO _)));change wpAny _ _ (x6 (.ref I)>>=_) _ _ s;apply ac;refine p9 a rfl ?_;change wpAny _ _ (qa S>>=λg=>if((g.size:Int) != es.size)=Z7 then _ else sw S (((plS t i:Nat):Int)).toNat ((i:Int)).toNat ((ep:Int)).toNat>>=_) _ _ s;apply ac;refine g6 x.at_ x.dt x.fit ?_;rw[yb (by simp),d7 _];apply ac;refine JU hb e x ?_;have ps:=JV x;have k:es[i]?=Z9 (es.getD i (0,.none)):=by rw[dj,cj j];rfl
 have l:t.place[i]?=Z9 (t.place.getD i 0):=by rw[dj,cj (by omega)];rfl
 rw[JT hs (by omega),k,l]
 try dsimp only
 apply ac;refine c9 a (by simp) λe m n=>?_;apply ac;exact c9 m (by simp) λp q r=>ah ⟨_,rfl,ah (b p (n.trans r) q)⟩
theorem zs7 {Q:Option Value->aq->Prop}(hh:A.handled=Z8)(hb:w.params.followText "set-order"=Z6)(h:(!t.plain&&decide (es.size>1))=Z6)(hs:t.place.toList.Pairwise (· < ·))(a:s.heap.get? I=Z9 (siObj (gc ((plS t es.size:Nat):Int)) es.size S es.size ep))(x:ISet prog w s.heap S f c es ep t o)
  (d:∀i,(∀b o,b≠I->s.heap.get? b=Z9 o->i.get? b=Z9 o)->Q Z8 {s with heap:=i}):wpAny (model prog w) A (mj (.ref I)) Q E s:=by
 have j:s.TypeIs (.ref I) "set_iterator":=⟨_,a,rfl⟩
 delta mj
 apply ac;refine lv (ef (name:=Str.ofString "__next__") j lV (d3 lV j z1c ?_ (AO _)));change wpAny _ _ (x6 (.ref I)>>=_) _ _ s;apply ac;refine p9 a rfl ?_;have k:((ep:Int)).toNat=ep:=d7 ep;have l:((es.size:Int)).toNat=es.size:=d7 _;have m:(((plS t es.size:Nat):Int)).toNat=plS t es.size:=d7 _;change wpAny _ _ (qa S>>=λg=>if((g.size:Int) != (es.size:Int))=Z7 then _ else sw S (((plS t es.size:Nat):Int)).toNat ((es.size:Int)).toNat ((ep:Int)).toNat>>=_) _ _ s;apply ac;refine g6 x.at_ x.dt x.fit ?_;rw[yb (by simp),k,l,m];apply ac;refine JU hb h x ?_;have n:es[es.size]?=none:=i9 (ai _);rw[JT hs (by rw[JV x];exact ai _),n]
 try dsimp only
 apply ac;refine c9 a (by simp) λh q p=>?_
 repeat (any_goals (first|assumption|wp_step))
 refine lm (show A.in1.handled=Z8 from hh) ?_
 try dsimp only
 apply ac;refine ny (T:="StopIteration") (b:=Z7) ⟨_,ax _ rfl,rfl⟩ t6 ?_;exact ah (d _ λb o hb e=>af _ (af _ (p.extBut b o hb e)))
end
theorem AQ:PySem.Slot "set_iterator" "__iter__" "set_iterator.__iter__":=.of (owner:="set_iterator") (n:="__iter__") (by rw[pb];kernel_rfl) (by decide+kernel) (by decide+kernel) (by decide+kernel) (by first|exact .inl (by decide+kernel)|exact .inr (by decide+kernel)) (by rw[isSubtype_type];kernel_rfl)
theorem z2r:wv table "set_iterator.__iter__"=some Builtin.«dict_keyiterator.__iter__»:=entryFor_alias (id':="dict_keyiterator.__iter__") (by kernel_rfl) rfl (by decide+kernel) (by kernel_rfl)
theorem JW (a:Value):argsOk "set_iterator.__iter__" ⟨[a],[]⟩:=by kernel_rfl
def kA (I:Addr):Value->Addr
 |.ref a=>a
 |_=>I
section
variable {prog:cg}{w:World}{A:d8}{E:Value->aq->Prop}{s:aq}{S I:Addr}{f:Int->Bool}{c:Nat}{es:Array (Int×Value)}{ep:Nat}{t:bv}{o:Obj}{first:Value}{L:List Value}{i:Nat}
theorem Ord.keep (x:Ord w S es ep h first L)(k:∀u,h.get? (kA I first)=Z9 u->a.get? (kA I first)=Z9 u):Ord w S es ep a first L:=by
 rcases x with x|⟨hb,tp,pl,rfl,ht,more⟩
 .exact .inl x
 .exact .inr ⟨hb,tp,pl,rfl,k _ ht,more⟩
theorem Ord.perm (x:Ord w S es ep h first L):L.Perm (es.toList.map (·.2)):=by
 rcases x with⟨_,_,rfl⟩|⟨_,tp,pl,_,_,pp,rfl⟩
 .exact(Tc _ es).map _
 .have e:es.toList.map (·.2)=(cc es.size).map fun i=>(es.getD i (0,.none)).2:=by
   refine j7 λi=>?_;rw[ar,ar,gm];by_cases hi:i<es.size
   .rw[cj hi,i5 hi];show Z9 es[i].2=Z9 (es.getD i (0,.none)).2;rw[dj,cj hi];rfl
   .rw[i9 (jv hi),jf (fz▸jv hi)];rfl
  rw[e];exact pp.map _
def vD (prog:cg)(w:World)(S I:Addr)(f:Int->Bool)(c:Nat)(es:Array (Int×Value))(ep:Nat)(t:bv)(o:Obj)(first:Value)(L:List Value)(i:Nat)(s:aq):Prop:=s.heap.get? I=Z9 (siObj first i S es.size ep)/\ISet prog w s.heap S f c es ep t o/\Ord w S es ep s.heap first L/\(kA I first=I->∃k,first=gc k)
theorem vD.ne (x:vD prog w S I f c es ep t o first L i s):S≠I:=λe=>by have a:=x.2.1.at_;rw[e,x.1]at a;have b:=x.2.1.ex.1;rw[<-yc a]at b;exact absurd (show ZR "set_iterator"=.type "set"from b) (by decide)
theorem vD.tn (x:vD prog w S I f c es ep t o first L i s)(k:∀b u,b≠I->s.heap.get? b=Z9 u->a.get? b=Z9 u):Ord w S es ep a first L:=by
 rcases x.2.2.1 with y|⟨hb,tp,pl,rfl,ht,more⟩
 .exact .inl y
 .refine .inr ⟨hb,tp,pl,rfl,k tp _ (λe=>?_) ht,more⟩;rw[e,x.1]at ht;exact absurd (show ZR "set_iterator"=.type "tuple"from congrArg Obj.cls (yc ht)) (by decide)
theorem Td (hh:A.handled=Z8):WalksS prog w A I [I,S,kA I first] [I] (λa b=>b=a) L.length (λi v=>L[i]?=Z9 v) (vD prog w S I f c es ep t o first L) where
 sub:=λb hb=>au.mpr (.inl (ag.mp hb))
 grefl:=λ_=>rfl
 gtrans:=λ_ _ _ a b=>b.trans a
 frame:=λi s l n x _ k=>⟨k I bb _ x.1,{x.2.1 with at_:=k S (ay _ bb) _ x.2.1.at_},x.2.2.1.keep λu=>k _ (ay _ (ay _ bb)) u,x.2.2.2⟩
 item:=λi s Q E m x d=>by refine zme x.1 x.2.1 x.2.2.1 (am m) λl k g=>?_;have h:=λb u hb e=>k.extBut b u hb e;exact d _ _ (am m) ⟨g,{x.2.1 with at_:=h S _ x.ne x.2.1.at_},x.tn h,x.2.2.2⟩ ⟨λb u hb e=>h b u (λz=>hb (ag.mpr z)) e,rfl,rfl,rfl,ai _⟩
 done:=λs Q E x d=>by refine zsg hh x.1 x.2.1 x.2.2.1 (jf (ai _)) λl k=>?_;exact d _ ⟨λb u hb e=>k b u (λz=>hb (ag.mpr z)) e,rfl,rfl,rfl,ai _⟩
 self:=λi s Q E x q=>by have j:s.TypeIs (.ref I) "set_iterator":=⟨_,x.1,rfl⟩;refine my j AQ (d3 AQ j z2r ?_ (JW _));exact ah ⟨_,rfl,"set_iterator",_,j,lV.lookup,q⟩
def EL (prog:cg)(w:World)(S I:Addr)(f:Int->Bool)(c:Nat)(es:Array (Int×Value))(ep:Nat)(t:bv)(o:Obj)(i:Nat)(s:aq):Prop:=s.heap.get? I=Z9 (siObj (gc ((plS t i:Nat):Int)) i S es.size ep)/\ISet prog w s.heap S f c es ep t o
theorem EL.ne (x:EL prog w S I f c es ep t o i s):S≠I:=λe=>by have h1:=x.2.at_;rw[e,x.1]at h1;have h2:=x.2.ex.1;rw[<-yc h1]at h2;exact absurd (show ZR "set_iterator"=.type "set"from h2) (by decide)
theorem Te (hh:A.handled=Z8)(hb:w.params.followText "set-order"=Z6)(h1:(!t.plain&&decide (es.size>1))=Z6)(hs:t.place.toList.Pairwise (· < ·)):WalksS prog w A I [I,S] [I] (λa b=>b=a) es.size (λi v=>(es.toList.map (·.2))[i]?=Z9 v) (EL prog w S I f c es ep t o) where
 sub:=λb hb=>au.mpr (.inl (ag.mp hb))
 grefl:=λ_=>rfl
 gtrans:=λ_ _ _ a b=>b.trans a
 frame:=λi s h' tk x _ k=>⟨k I bb _ x.1,{x.2 with at_:=k S (ay _ bb) _ x.2.at_}⟩
 item:=λi s Q E hi x fin=>by refine zl3 hb h1 hs hi x.1 x.2 λh' k g=>?_;have kb:=λb u hb e=>k.extBut b u hb e;refine fin _ _ ?_ ⟨g,{x.2 with at_:=kb S _ x.ne x.2.at_}⟩ ⟨λb u hb e=>kb b u (λz=>hb (ag.mpr z)) e,rfl,rfl,rfl,ai _⟩;rw[ar,gm,dj,cj hi];rfl
 done:=λs Q E x fin=>by exact zs7 hh hb h1 hs x.1 x.2 λh' k=>fin _ ⟨λb u hb e=>k b u (λz=>hb (ag.mpr z)) e,rfl,rfl,rfl,ai _⟩
 self:=λi s Q E x q=>by have hT:s.TypeIs (.ref I) "set_iterator":=⟨_,x.1,rfl⟩;refine my hT AQ (d3 AQ hT z2r ?_ (JW _));exact ah ⟨_,rfl,"set_iterator",_,hT,lV.lookup,q⟩
end
section
variable {prog:cg}{w:World}{A:d8}{E:Value->aq->Prop}{s:aq}{S:Addr}{f:Int->Bool}{c:Nat}{es:Array (Int×Value)}{ep:Nat}{t:bv}{o:Obj}
theorem Tf (a:b.TypeIs (.ref S) "set")(h:R Z6 b):wpAny (model prog w) A (pj (.ref S)) R E b:=by
 delta pj
 apply ac;refine wpAny_specialOf a PySem.F.slot_set_len.lookup ?_;apply ac;refine ny a sub_set_self ?_;rw[yb (by decide)];rw[ya]
 .apply ac;exact kz a (ah h)
 .kernel_rfl
abbrev gU:Obj:={cls:=.type "list",data:=.seq ([]:List Value).toArray}
theorem z77 (hh:A.handled=Z8)(x:ISet prog w s.heap S f c es ep t o)
  (fin:∀(s':aq) L,(∀b u,s.heap.get? b=Z9 u->s'.heap.get? b=Z9 u)->s'.gens=s.gens->s'.os=s.os->s.toks<=s'.toks->L.Perm (es.toList.map (·.2))->Q L s'):wpAny (model prog w) A (collect (.ref S)) Q E s:=by
 have oW:=bj x.at_
 delta collect
 apply ac;refine wpAny_runValue (g7 PySem.F.entry_proto_collect ?_);rw[Around.under_plainId PySem.F.plain_proto_collect _];apply ac;refine gr ?_;refine ah ⟨j3 PySem.F.plain_list_iadd _,g7 PySem.F.entry_list_iadd ?_⟩;rw[Around.under_plainId PySem.F.plain_list_iadd _];change wpAny _ A.in1 (pq (.ref s.heap.objs.size) (.ref S) (.ref s.heap.objs.size)) _ _ {s with heap:=s.heap.push gU};have x1:ISet prog w (s.heap.push gU) S f c es ep t o:={x with at_:=af _ x.at_};have hT:Shared.TypeIs {s with heap:=s.heap.push gU} (.ref S) "set":=⟨o,x1.at_,x.ex.1⟩
 delta pq
 apply ac;refine kz hT ?_;have n1:qt (.ref s.heap.objs.size) (.ref S)=false:=by simp[qt,kt oW]
 have n2:(ZR "set"==ZR "list")=false:=by decide
 have n3:(ZR "set"==ZR "tuple")=false:=by decide
 rw[n1,n2,n3];apply ac;refine zgb x1 λs1 I first L k1 k2 k3 k4 k5 k6 ord=>?_
 apply ac;apply dz;refine Tf ⟨o,k1 S o x1.at_,x.ex.1⟩ ?_;have hn:s.heap.objs.size≠I:=λz=>by rw[<-z]at k5;have g:(s.heap.push gU).get? s.heap.objs.size=Z9 gU:=ax _ rfl;rw[show(s.heap.push gU).get? s.heap.objs.size=Z8 from k5]at g;cases g
 have pm:L.Perm (es.toList.map (·.2)):=by
  rcases ord with ord|⟨_,_,_,_,rfl⟩
  .exact ord.perm
  .exact List.Perm.refl _
 have ln:L.length=es.size:=by rw[pm.length_eq,ae,e9]
 have sz:L.length<=bh:=by rw[ln];exact qj x.vB
 have EM:=k1 _ _ (ax _ rfl);split
 .apply ac;apply jr;apply ac;apply ac;refine s0 EM rfl ?_;have JX:=e8 (Obj.mapSeq (·.push Value.none)) EM rfl;refine s0 JX rfl ?_;have Ti:=e8 (Obj.mapSeq (·.pop)) JX rfl;have vE:∀b u,b≠s.heap.objs.size->s1.heap.get? b=Z9 u->((s1.heap.update s.heap.objs.size (Obj.mapSeq (·.push Value.none))).update s.heap.objs.size (Obj.mapSeq (·.pop))).get? b=Z9 u:=λb u hb e=>by rw[i7 _ _ _ _ hb,i7 _ _ _ _ hb];exact e
  have nS:=kt oW
  have hW:∃(fp:List Addr) (St:Nat->aq->Prop),WalksS prog w A.in1 I fp [I] (λa b=>b=a) L.length (λi v=>L[i]?=Z9 v) St/\s.heap.objs.size∉fp/\St 0 {s1 with heap:=(s1.heap.update s.heap.objs.size (Obj.mapSeq (·.push Value.none))).update s.heap.objs.size (Obj.mapSeq (·.pop))}:=by
   rcases ord with ord|⟨hb,h1,hs,rfl,rfl⟩
   .skip
    have nT:s.heap.objs.size≠kA I first:=by
     rcases ord with⟨_,rfl,_⟩|⟨_,tp,pl,rfl,ht,_⟩
     .exact hn
     .intro z;have z:s.heap.objs.size=tp:=z;rw[<-z,EM]at ht;exact absurd (show ZR "list"=.type "tuple"from congrArg Obj.cls (yc ht)) (by decide)
    have no:s.heap.objs.size∉ [I,S,kA I first]:=λz=>by
     rcases au.mp z with z|z
     .exact hn z
     .rcases au.mp z with z|z
      .exact nS z
      .exact nT (ag.mp z)
    have st:vD prog w S I f c es ep t o first L 0 {s1 with heap:=(s1.heap.update s.heap.objs.size (Obj.mapSeq (·.push Value.none))).update s.heap.objs.size (Obj.mapSeq (·.pop))}:=by
     refine⟨vE I _ (Ne.symm hn) k6,{x with at_:=vE S _ (Ne.symm nS) (k1 S o x1.at_)},ord.keep λu e=>vE _ u (Ne.symm nT) e,λz=>?_⟩;rcases ord with⟨_,rfl,_⟩|⟨_,tp,pl,rfl,ht,_⟩
     .exact⟨0,rfl⟩
     .have z:tp=I:=z;rw[z,k6]at ht;exact absurd (show ZR "set_iterator"=.type "tuple"from congrArg Obj.cls (yc ht)) (by decide)
    exact⟨_,_,Td hh,no,st⟩
   .have l1:(es.toList.map (·.2)).length=es.size:=ln;rw[l1];refine⟨_,_,Te hh hb h1 hs,λz=>?_,vE I _ (Ne.symm hn) k6,{x with at_:=vE S _ (Ne.symm nS) (k1 S o x1.at_)}⟩;rcases au.mp z with z|z
    .exact hn z
    .exact nS (ag.mp z)
  obtain⟨fp,St,W,no,st⟩:=hW;refine ah ⟨j3 PySem.F.plain_extend_loop _,codeAny_extend_loopS W sz s.heap.objs.size no (.ref s.heap.objs.size) L.length 0 _ _ _ (Nat.sub_zero _) (cy _) st Ti (ItemsOf.nil _) λs2 acc c2 mv g items=>?_⟩;apply ac;refine vj g ?_
  have el:acc.toList=L:=by
   refine j7 λj=>?_;rw[gm];by_cases hj:j<acc.size
   .rw[cj hj];exact(items.2 j _ (cj hj)).symm
   .rw[i9 (jv hj),jf (by rw[<-items.1];exact jv hj)]
  have lW:=fin s2 L (λb u e=>?_) (mv.gens.trans k2) (mv.os.trans k3) (bp k4 mv.toks) pm
  .rw[<-el]at lW;exact ah lW
  .have hb:b≠s.heap.objs.size:=cu (bj e);have e1:(s.heap.push gU).get? b=Z9 u:=af _ e;have hI:b≠I:=λz=>by rw[z]at e1;rw[show(s.heap.push gU).get? I=Z8 from k5]at e1;cases e1
   refine mv.heap b u (λz=>?_) (vE b u hb (k1 b u e1));rcases au.mp z with z|z
   .exact hb z
   .exact hI (ag.mp z)
 .rename_i no;exact absurd (by kernel_rfl) no
end
def dJ:List Int->List Int->List Int
 |acc,[]=>acc
 |acc,z::ws=>dJ (if z∈acc then acc else acc++[z]) ws
theorem AR:∀ws c,c.Nodup->(dJ c ws).Nodup/\(∀k,k∈dJ c ws↔k∈c\/k∈ws)/\ws.foldl addI (λk=>decide (k∈c),c.length)=(λk=>decide (k∈dJ c ws),(dJ c ws).length)
 | [],c,nd=>⟨nd,λk=>⟨.inl,λz=>z.elim id λz=>by cases z⟩,rfl⟩
 |z::ws,c,nd=>by
  by_cases h:z∈c
  .obtain⟨d,f,g⟩:=AR ws c nd;have e:dJ c (z::ws)=dJ c ws:=by show dJ (if z∈c then c else c++[z]) ws=_;rw[ya h]
   rw[e];refine⟨d,λk=>(f k).trans ⟨λy=>y.elim .inl λy=>.inr (ay _ y),λy=>y.elim .inl λy=>?_⟩,?_⟩
   .rcases au.mp y with rfl|y
    .exact .inl h
    .exact .inr y
   .rw[<-g];show ws.foldl addI (addI (λk=>decide (k∈c),c.length) z)=_
    congr 1
    show((λk=>decide (k∈c)||decide (k=z)),if decide (z∈c)=Z7 then c.length else c.length+1)=_;rw[ya (yf h)]
    congr 1
    funext k
    by_cases hk:k=z
    .rw[hk,yf h];rfl
    .rw[yg hk,qm]
  .have i:(c++[z]).Nodup:=by
    rw[mz];exact⟨nd,cz.mpr ⟨nofun,gy⟩,λa j b hb e=>by rw[ag.mp hb]at e;exact h (e▸j)⟩
   obtain⟨d,f,g⟩:=AR ws (c++[z]) i;have e:dJ c (z::ws)=dJ (c++[z]) ws:=by show dJ (if z∈c then c else c++[z]) ws=_;rw[yb h]
   rw[e];refine⟨d,λk=>(f k).trans ?_,?_⟩
   .rw[bw,ag,au,or_assoc]
   .rw[<-g];show ws.foldl addI (addI (λk=>decide (k∈c),c.length) z)=_
    congr 1
    show((λk=>decide (k∈c)||decide (k=z)),if decide (z∈c)=Z7 then c.length else c.length+1)=_;rw[yb (by rw[yg h];decide),bq]
    congr 1
    funext k
    by_cases hk:k=z
    .rw[hk,yf (bg _ (ag.mpr rfl)),yf rfl,pi]
    .rw[yg hk,qm];exact decide_eq_decide.mpr ⟨bz _,λy=>(bw.mp y).elim id λy=>absurd (ag.mp y) hk⟩
def SOI (P:cg)(w:World)(p:Addr)(ws:List Int):HO:=.ext λh=>IsIS P w h p (λk=>decide (k∈dJ [] ws)) (dJ [] ws).length
theorem isInt_shape (h:Value.isInt k v=Z7):∃t,v=.int k t:=by
 unfold Value.isInt at h;split at h
 .rename_i n t;have h:n=k:=by simpa using h
  subst h;exact⟨t,rfl⟩
 .cases h
theorem w' {K:Z5}:∀{ws:List Int} {b:List V} {a:List Value},Vals b a->aD K H B b (ws.map .int)->(∀i v,a[i]?=Z9 v->∃t,v=Value.int (ws.getD i 0) t)/\a.length=ws.length
 | [],b,a,r,q=>by subst q;cases r;exact⟨nofun,rfl⟩
 |w::ws,b,a,r,q=>by
  obtain⟨v,g,rfl,c,d⟩:=q;cases r with
  |cons r1 r2=>
   subst c;obtain⟨e,f⟩:=w' r2 d;obtain⟨t,rfl⟩:=r1;refine⟨λi v h=>?_,congrArg (· +1) f⟩;cases i with
   |zero=>cases h;exact⟨t,rfl⟩
   |succ i=>exact e i v h
section
variable {X:Cx}
def Tj (X:Cx):List V->Hp->VK->Prop:=λxs H Q=>∃B x ws,xs=[x]/\Rep X.K H B x (.list (ws.map .int))/\ws.length<4000/\∀p,H p=Z8->Q (.ref p) (upd H p (SOI X.prog X.w p ws))
theorem Tn (hc:X.calm=Z7):CallR X (.type "set") (Tj X):=by
 rintro h s A H C D Q I r ⟨B,x,ws,rfl,l,hl,q⟩
 obtain⟨a,E,rfl,d,rs⟩:=rX l rfl;obtain⟨u,rfl,rfl⟩:=vals1 r;obtain⟨f,rv,pl,F⟩:=I.list d;obtain⟨m,len⟩:=w' rv rs;refine zc2 (I.ok.hd hc) pl.isList (λi v e=>m i v (by rw[nk]at e;exact e)) (by rw[cb];unfold ri;omega) λG g=>?_;obtain⟨n,p,rfl,c,kp⟩:=g
 have ev:(cc f.toArray.size).map (λi=>ws.getD i 0)=ws:=by
  rw[cb,len];refine j7 λi=>?_;rw[ar];by_cases j:i<ws.length
  .rw[i5 j];show Z9 (ws.getD i 0)=_;rw[az,am j];rfl
  .rw[jf (by grind),jf (by omega)];rfl
 rw[ev]at c;have h0:=(AR ws [] gy).2.2;have y:(λk=>decide (k∈([]:List Int)),([]:List Int).length)=((λ_=>Z6,0):(Int->Bool)×Nat):=by congr 1
 rw[y]at h0;rw[h0]at c;have z:∃o,n.get? s.heap.objs.size=Z9 o:=by obtain⟨J,ep,t,o,x⟩:=c;exact⟨o,x.at_⟩
 exact⟨.ref s.heap.objs.size,_,I.laid (o:=SOI X.prog X.w s.heap.objs.size ws) (t':=p) (λb u e=>kp b u (bj e) e) (ai _) ⟨c,z,λK L x k=>x.keep k⟩,rfl,q _ (I.hok.fresh (ai _))⟩
def To (X:Cx):List V->Hp->VK->Prop:=λxs H Q=>∃p ws,xs=[.ref p]/\H p=Z9 (SOI X.prog X.w p ws)/\(dJ [] ws).length<64/\∀v (zs:List Int) H',Same H H'->zs.length=(dJ [] ws).length->Rep X.K H' (nw H) v (.list (zs.map .int))->Q v H'
def intOf:Value->Int
 |.int z _=>z
 |_=>0
theorem EN (h:∀v∈L,∃z t,v=Value.int z t):Vals ((L.map intOf).map V.int) L:=by
 induction L with
 |nil=>exact .nil
 |cons v L ih=>obtain⟨z,t,rfl⟩:=h v bb;exact .cons ⟨t,rfl⟩ (ih λu hu=>h u (ay _ hu))
theorem JY {K:Z5}:∀{zs:List Int},aD K H B (zs.map V.int) (zs.map .int)
 | []=>rfl
 |z::zs=>⟨_,_,rfl,rfl,JY⟩
open PySem.W in
theorem zmq {pins:List (Addr×Obj)}{σ:L2.St}{H:Hp}{s:aq}(I:Inv X pins σ H s){l:Addr}{vs:List V}{its:List Value}{n:Nat}{A:d8}{E:Value->aq->Prop}{Q:Value->aq->Prop}
  (hH:H l=Z9 (.lst vs)) (ho:s.heap.get? l=Z9 (W.listOf its.toArray n)) (isT:∀v∈its,∃z t,v=Value.int z t) (h2:2<=its.length) (h64:its.length<64)
  (q:∀s' (eG:List Value),eG.length=its.length->Inv X pins σ (upd H l (.lst ((eG.map intOf).map .int))) s'->Q .none s'):wpAny (model X.prog X.w) A (call (.builtin "list.sort") [.ref l]) Q E s:=by
 obtain⟨m,pO,_⟩:=id I.loc;have F:Fr X.base X.env.locals s.heap m:=⟨pO,I.bk,bp I.ok.iG I.ok.above⟩;have hL:l≠X.env.locals:=λz=>by subst z;rw[I.free]at hH;cases hH
 have hb:X.base.get? l=none:=by
  cases e:X.base.get? l with
  |none=>rfl
  |some u=>have:=(I.bs l u e).2;rw[hH]at this;cases this
 refine kat_lsort (vs:=its) F (mW hL hb ho) (.head GJ) (by simp) (by omega) (by omega) λe1 h' F' N'=>?_;have EO:∀{pP:Heap} {o:Obj},Fr X.base X.env.locals pP m->News X.base X.env.locals pP ((l,o)::rest X.base s.heap X.env.locals l)->∀b o,b≠X.env.locals->b≠l->s.heap.get? b=Z9 o->pP.get? b=Z9 o:=λuN AS b o h1 h2 e=>z6w I.bk uN (λq hq=>AS q (ay _ hq)) b o h1 h2 e;have at_:∀i,i<its.length->∃z t,its.getD i Value.none=Value.int z t:=λi hi=>isT _ (by rw[az,am hi];exact ig hi);refine kas_kind (T:=.type "int") (by omega) (λu hu=>by obtain⟨z,t,rfl⟩:=isT u hu;exact Looks.of_pure rfl) (by decide) (by decide) ?_;refine Im (n:=its.length) (R:=AllIn its.length) (P:=λs'=>s'={s with heap:=h'}) (λi j C s' hi hj e hC=>?_) (W.kas_sort its.length) _ (Qe (by omega)) rfl λpm s' hp e=>?_
 .subst e;obtain⟨z,t,e1⟩:=at_ i hi;obtain⟨z',t',e2⟩:=at_ j hj;show wpAny _ _ (keyLt' oneType' (its.getD i Value.none) (its.getD j Value.none)) C _ _;rw[keyLt'_oneType,e1,e2];exact oneLt_int (hC _ _ rfl)
 .subst e;refine⟨_,_,F',N',.head GJ,λpP c uN AS=>?_⟩;have yw:=(AS _ bb).1;have ln:(pm.toList.map λi=>its.getD i Value.none).length=its.length:=by rw[ae];simpa using hp.2.toList.length_eq
  refine q _ (pm.toList.map λi=>its.getD i Value.none) ln (I.writeF (t':=s.toks) hH pO uN.ns (EO uN AS) ⟨by rw[ae,ae,ln,dw];omega,_,c,EN λv hv=>?_,yw⟩);obtain⟨i,hi,rfl⟩:=av.mp hv;exact at_ i (by simpa using hp.2.toList.mem_iff.mp hi)
theorem Tq (hc:X.calm=Z7):CallR X (.builtin "sorted") (To X):=by
 intro pins s σ H xs us Q I r h;obtain⟨p,ws,rfl,hp,h64,q⟩:=h;obtain⟨u,rfl,ru⟩:=vals1 r;cases ru;obtain⟨⟨es,ep,t,o,x⟩,_⟩:=(show z1b X.prog X.w H s.heap p (SOI X.prog X.w p ws)from I.hok p _ hp);apply qd kind_sorted plain_sorted entry_sorted (args_sorted1 _);unfold Builtin.«sorted»;apply ac (m:=checkCount "sorted" 1 1 _);apply ah;refine ac (z77 (show X.A.in1.handled=none from I.ok.hd hc) x λs1 L k1 k2 k3 k4 pl=>?_);obtain⟨h1,g1,d1,t1,o1⟩:=s1;have k2:g1=s.gens:=k2;have k3:o1=s.os:=k3;subst k2 k3;have I0:Inv X pins σ H {s with heap:=h1,toks:=t1}:=I.kept k1;have I1:Inv X pins σ H ⟨h1,s.gens,d1,t1,s.os⟩:=⟨I0.ok,I0.os,I0.bare,I0.base,I0.loc,I0.cell,I0.free,I0.freeC,I0.pin,I0.hok,I0.len,I0.fx⟩;have isT:∀v∈L,∃z t,v=Value.int z t:=λv hv=>by obtain⟨e,he,rfl⟩:=av.mp (pl.mem_iff.mp hv);obtain⟨⟨k,hk,_⟩,_⟩:=x.el e he;obtain⟨t,et⟩:=isInt_shape (show Value.isInt k e.2=true from hk);exact⟨k,t,et⟩
 have ll:(L.map intOf).length=(dJ [] ws).length:=by rw[ae,pl.length_eq,ae,e9,x.cnt]
 have Tr:L.length=(dJ [] ws).length:=by rw[<-ll,ae]
 have sz:L.length<=bh:=bp (by omega:L.length<=1000) (by rw[dw];decide);have rv:Vals ((L.map intOf).map V.int) L:=EN isT;have hz:((L.map intOf).map V.int).length<=bh:=by rw[rv.length];exact sz
 generalize (L.map intOf).map V.int=vs at rv hz;refine ac (uz ?_ sz);have yt:H h1.objs.size=none:=I1.hok.fresh (ai _);have yu:(h1.push (j5 "list" L.toArray 0)).get? h1.objs.size=Z9 (j5 "list" L.toArray 0):=ax _ rfl;have I3:Inv X pins σ (upd H h1.objs.size (.lst vs)) ⟨h1.push (j5 "list" L.toArray 0),s.gens,d1,t1,s.os⟩:=I1.laid (a:=h1.objs.size) (o:=.lst vs) (t':=t1) (λ_ _ z=>af _ z) (ai _) ⟨hz,L,0,rv,yu⟩;have fin:∀s' (zs:List Int),zs.length=L.length->Inv X pins σ (upd (upd H h1.objs.size (.lst vs)) h1.objs.size (.lst (zs.map .int))) s'->EP X pins σ Q (.ref h1.objs.size) s':=λs' zs el I4=>by refine⟨.ref h1.objs.size,_,I4,rfl,q _ zs _ (λb u z=>?_) (el.trans Tr) ⟨_,_,rfl,.inl ⟨aT,yt⟩,JY⟩⟩;have hb:=dE z yt;rw[aB hb,aB hb];exact z
 by_cases h2:L.length<2
 .obtain⟨m,pO,_⟩:=id I3.loc;have DA:X.env.locals≠h1.objs.size:=λz=>by have:=I1.lt;rw[z]at this;exact dk _ this
  have Al:Vals ((L.map intOf).map V.int) L:=EN isT;refine ac (dz (z3r (A:=X.A.in1) (s:=⟨h1.push (j5 "list" L.toArray 0),s.gens,d1,t1,s.os⟩) yu h2 λpP n' kp yw=>ah ⟨_,rfl,fin _ (L.map intOf) (ae _) (I3.writeF (t':=t1) aT pO (pO.at λo e=>kp _ o DA e) (λb u _ hb e=>kp b u hb e) ⟨by rw[Al.length];exact sz,L,n',Al,yw⟩)⟩))
 .exact ac (dz (zmq (A:=X.A.in1) I3 aT yu isT (by omega) (by omega) λs' eG e I4=>ah ⟨_,rfl,fin s' (eG.map intOf) (by rw[ae];exact e) I4⟩))
def sR (K:Z5)(ta:TE):TE:=λσ H Q=>ta σ H λx H1=>∃(B:Ad->Prop) (ws:List Int),Rep K H1 B x (.list (ws.map .int))/\ws.length<60/\∀v (zs:List Int) H',Same H1 H'->zs.length=(dJ [] ws).length->Rep K H' (nw H1) v (.list (zs.map .int))->Q v H'
theorem AU:∀ws a,(dJ a ws).length<=a.length+ws.length
 | [],a=>ai _
 |z::ws,a=>by
  have h:=AU ws (if z∈a then a else a++[z]);show(dJ (if z∈a then a else a++[z]) ws).length<=a.length+(ws.length+1);split at h
  .rename_i q;rw[ya q];omega
  .rename_i q;rw[yb q];rw[bq]at h;simp at h;omega
theorem zp6 {x y:Str}{p p' pos pos':Pos}{e:Expr}{ta:TE}(hc:X.calm=Z7)(hm:X.mg x=Z8)(hv:db x=Z9 (.builtin "sorted"))(hg:Gl X x)(hn:x≠"__name__")(hdb:XX x)
  (Ts:X.mg y=Z8) (ER:db y=Z9 (.type "set")) (Tu:Gl X y) (Tv:y≠"__name__") (ES:XX y) (hs:isStar e=Z6) (ha:PE X e ta):
  PE X (.Call (.Name x p) [.Call (.Name y p') [e] [] pos'] [] pos) (sR X.K ta):=by
 intro pins s σ H Q I h;have h':ta σ H λx H1=>∃(B:Ad->Prop) (ws:List Int),Rep X.K H1 B x (.list (ws.map .int))/\ws.length<60/\∀v (zs:List Int) H',Same H1 H'->zs.length=(dJ [] ws).length->Rep X.K H' (nw H1) v (.list (zs.map .int))->Q v H':=h
 have uQ:PE X e (λσ' H' Q'=>σ'=σ/\H'=H/\∀x H1,(∃(B:Ad->Prop) (ws:List Int),Rep X.K H1 B x (.list (ws.map .int))/\ws.length<60/\∀v (zs:List Int) H',Same H1 H'->zs.length=(dJ [] ws).length->Rep X.K H' (nw H1) v (.list (zs.map .int))->Q v H')->Q' x H1):=by
  rintro dU s' σ' H' Q' I' ⟨rfl,rfl,k⟩
  exact aI (ha dU s' σ' H' _ I' h') λu s1 ⟨x,H1,I1,r,q⟩=>⟨x,H1,I1,r,k x H1 q⟩
 refine uG (Tq hc) hm hv (cV (z3 (Tn hc) Ts ER (cV uQ hU hs) (by simp[hs]) Tu Tv ES) hU rfl) rfl hg hn hdb pins s σ H Q I ⟨rfl,rfl,λx H1 zz=>?_⟩;obtain⟨B,ws,rp,hl,q⟩:=zz;refine⟨B,x,ws,rfl,rp,by omega,λp hp=>⟨p,ws,rfl,aT,?_,λv zs H' s' pz rv=>q v zs H' ((Same.upd hp).trans s') pz (rv.weak λa h=>nw.back (Same.upd hp) h)⟩⟩;have:=AU ws [];simp only[ox]at this;omega
end
open PySem.W
section
open PySem.SeqAt
end
def iB (K:Z5)(en:Bool)(R:It->Hp->Prop)(v:V)(H1:Hp):Prop:=∃B d xs,Rep K H1 B v d/\(if en then seqR d else z5f d)=.ok xs/\∀J,Walk K J B H1 (if en then z22 0 xs else xs)->R J H1
def AV (K:Z5)(en:Bool)(t:TE):TI:=λσ H R=>t σ H (iB K en R)
section
variable {X:Cx}{a tg:Expr}{t:TE}
theorem Tw (c:PE X a t):PI X k a (AV X.K Z6 t):=by intro b s f H R I h;exact aI (c b s f H _ I h) λv l ⟨y,m,g,i,B,d,n,j,e,q⟩=>z2o g i j e q
theorem Tz (hm:X.mg "enumerate"=Z8)(i:Gl X "enumerate")(hs:isStar a=Z6)(j:PE X a t):PI X (.Tuple f r tp) (.Call (.Name "enumerate" p) [a] [] pos) (AV X.K Z7 t):=by
 intro b s k H R I h;refine Call_ (z2d I i hm DF (PyProof.Rows.callWith_type1 (aI (cV j hU hs pos b s k H (λc g=>match c with| [v]=>iB X.K Z7 R v g|_=>False) I h) λx y ⟨c,g,l,m,z⟩=>?_) (eX hs) rfl));rcases c with _|⟨v,_|⟨w,c⟩⟩
 .exact z.elim
 .obtain⟨u,rfl,n⟩:=vals1 m;obtain⟨B,d,A,o,e,q⟩:=z;exact z3x l n o e q
 .exact z.elim
end
inductive W where
 |pur (c:C)|raw (i:Nat)|bin (op:t5) (a b:W)|cmp (op:CmpOp) (a b:W)|and (a b:W)|tup (xs:W)|lst (xs:W)|eA|ix (a b:W)|len (a:W)|cal (j:Nat) (as:W)|tp (c:C)|tc (op:CmpOp) (a b:W)|ti (ng:Bool) (a:W)|wtr (a:W)|not (a:W)|gA (f:Str)|gi (j:Nat)|pY (a b:W)|AW (a:W)|lc (nt:Nat) (js:List Nat) (N':List Str) (t:Tg) (en:Bool) (it c e:W)|AX (a:W)|nil|cons (a r:W)
 deriving Inhabited
structure Wc where
 K:Z5
 mg:Str->Option Value
 Κ:List D
 Φ:List Fn
 E:XK
 fn:List Sp
 me:List (Addr×Str×Sp)
 cl:List (Addr×Sp)
 xf:Option V:=Z8
 gi:List Int:=[]
 hf:List (Addr×Sp):=[]
 md:List (Addr×Str×Sp):=[]
 mq:List (Addr×Str×Sp):=[]
structure Gw where
 g:Gm
 fn:List (Str×Nat)
 me:List (Str×Nat)
 cl:List (Str×Nat)
 xf:Option Str:=Z8
 gi:List Str:=[]
 fld:List (Str×Str):=[]
 hf:List (Str×Nat):=[]
 md:List (Str×Nat):=[]
 mq:List (Str×Str):=[]
def JZ {α:Type}(us:List α):List α->List α
 | [w]=>us++[w]
 |_=>[]
def mM:TE:=λ_ _ _=>False
def J1 (K:Z5)(t:TE):TT:=λσ H Q=>t σ H λx H'=>∃k,kZ K x H' k/\Q k H'
mutual
def wE:Wc->W->TE
 |Z,.pur c=>tD Z.K (aF Z.Κ Z.Φ c)
 |Z,.raw i=>wC i
 |Z,.bin op a b=>iJ (oM Z.K (cK op)) (wE Z a) (wE Z b)
 |Z,.cmp op a b=>iJ (oJ Z.K (mB (cmpD op))) (wE Z a) (wE Z b)
 |Z,.and a b=>GQ (wE Z a) (wE Z b)
 |Z,.tup xs=>wN (wA Z xs)
 |Z,.lst xs=>wO (wA Z xs)
 |Z,.eA=>Hd
 |Z,.ix a b=>iJ (lH Z.K) (wE Z a) (wE Z b)
 |Z,.len a=>mZ (z7o Z.K (hX "len")) (pK (wE Z a) iK)
 |Z,.cal j as=>match Z.fn[j]? with|some sp=>uC sp [] Z.E (wA Z as)|none=>mM
 |Z,.gA _=>match Z.xf with|some v=>λ_ H Q=>Q v H|none=>mM
 |Z,.gi j=>match Z.gi[j]? with|some n=>λ_ H Q=>Q (.int n) H|none=>mM
 |Z,.pY a b=>iJ (uF Z.K) (wE Z a) (wE Z b)
 |Z,.AX a=>sR Z.K (wE Z a)
 |Z,.AW a=>mZ (rAgg Z.K "list") (pK (wE Z a) iK)
 |Z,.lc nt js _ t en it c e=>xE (AV Z.K en (wE Z it)) (tDG Z.K t) (wT {Z with E:=λ_ _ _=>False,xf:=Z8} c) (wE {Z with E:=λ_ _ _=>False,xf:=Z8} e) (eJ nt js)
 |_,_=>mM
def wA:Wc->W->TA
 |Z,.nil=>iK
 |Z,.cons a r=>pK (wE Z a) (wA Z r)
 |_,_=>λ_ _ _=>False
def wT:Wc->W->TT
 |Z,.tp c=>dR Z.K (cP Z.Κ Z.Φ c)
 |Z,.tc op a b=>wM (iJ (oJ Z.K (mB (cmpD op))) (wE Z a) (wE Z b))
 |Z,.ti ng a=>wM (if ng then GN (wE Z a)else wD (wE Z a))
 |Z,.wtr a=>J1 Z.K (wE Z a)
 |Z,.not a=>wF (wT Z a)
 |_,.nil=>xB
 |_,_=>λ_ _ _=>False
end
def AY (Γ:Gw)(scope:Scope)(N':List Str):Gw:={Γ with g:={Γ.g with N:=N',sc:=z6 scope Γ.g.sc,blk:=Z7,xc:=Z8,kp:=[]},xf:=Z8}
def TB:W->Bool
 |.nil=>Z7
 |_=>Z6
mutual
def bJ:Gw->W->Expr->Bool
 |Γ,.pur c,e=>chkE Γ.g c e
 |Γ,.raw i,e=>iY (fX Γ.g i) e
 |Γ,.bin op a b,e=>(oA e).any λv=>decide (v.2.1=op)&&z9 op&&bJ Γ a v.1&&bJ Γ b v.2.2
 |Γ,.cmp op a b,e=>(rQ e).any λv=>decide (v.2.1=[op])&&(aX v.2.2).any λr=>z5q op&& !(gh op r)&&bJ Γ a v.1&&bJ Γ b r
 |Γ,.and a b,e=>(uI e).any λv=>decide (v.1=.And)&&uJ (λx=>bJ Γ a x) (λx=>bJ Γ b x) .And v.2.2 v.2.1
 |Γ,.tup xs,e=>(oB e).any λes=>pZ Γ xs es
 |Γ,.lst xs,e=>(oE e).any λes=>pZ Γ xs es
 |Γ,.eA,e=>(CH e).any λv=>v.1.isEmpty&&v.2.isEmpty
 |Γ,.ix a b,e=>(iO e).any λv=>z2y v.2&&bJ Γ a v.1&&bJ Γ b v.2
 |Γ,.len a,e=>(gO e).any λv=>(v.1==("len":Str))&&bX Γ.g v.1&&(aX v.2).any λy=>!isStar y&&bJ Γ a y
 |Γ,.cal j as,e=>(gO e).any λv=>lG Γ.g v.1&&(Γ.fn[j]?==Z9 (v.1,v.2.length))&&pZ Γ as v.2&&(Γ.g.cm&& !v.2.isEmpty)
 |Γ,.gA f,e=>(z8 e).any λv=>(v.2.1==f)&&z28 v.1&&(iY (λx=>Γ.g.xc.any λu=>u.1==x) v.1)&&(Γ.xf==Z9 f)
 |Γ,.gi j,e=>iY (λx=>lG Γ.g x&&(Γ.gi[j]?==Z9 x)) e
 |Γ,.pY a b,e=>(iO e).any λv=>z2y v.2&&bJ Γ a v.1&&bJ Γ b v.2
 |Γ,.AX a,e=>Γ.g.cm&&(gO e).any λv=>(v.1==("sorted":Str))&&bX Γ.g v.1&&(aX v.2).any λu=>(gO u).any λw=>(w.1==("set":Str))&&bX Γ.g w.1&&(aX w.2).any λy=>!isStar y&&bJ Γ a y
 |Γ,.AW a,e=>(gO e).any λv=>(v.1==("list":Str))&&bX Γ.g v.1&&(aX v.2).any λy=>!isStar y&&bJ Γ a y
 |Γ,.lc nt js N' t en it c x,e=>Γ.g.cm&&(CK e).any λv=>(aX v.2.1).any λg=>((g.is_async==0)&&nH Γ.g.N Γ.g.sc v.2.2 N' nt js&&decide N'.Nodup&&pM g.iter)&&(if en then isTup g.target&&(gO g.iter).any λu=>(u.1==("enumerate":Str))&&bX Γ.g u.1&&(aX u.2).any λy=>!isStar y&&bJ Γ it y else bJ Γ it g.iter)&&oG (AY Γ v.2.2 N').g t g.target&&(match g.ifs with| []=>TB c| [y]=>vF (AY Γ v.2.2 N') c y|_=>Z6)&&bJ (AY Γ v.2.2 N') x v.1
 |_,_,_=>Z6
def pZ:Gw->W->List Expr->Bool
 |Γ,.nil,es=>es.isEmpty
 |Γ,.cons a r,es=>match es with|e::es=>!isStar e&&bJ Γ a e&&pZ Γ r es|_=>Z6
 |_,_,_=>Z6
def vF:Gw->W->Expr->Bool
 |Γ,.tp c,e=>eB Γ.g c e
 |Γ,.tc op a b,e=>(rQ e).any λv=>decide (v.2.1=[op])&&(aX v.2.2).any λr=>z5q op&& !(gh op r)&&bJ Γ a v.1&&bJ Γ b r
 |Γ,.ti ng a,e=>(rQ e).any λv=>decide (v.2.1=[if ng then .IsNot else .Is])&&(aX v.2.2).any λr=>decide (gL r=Z9 .none)&&bJ Γ a v.1
 |Γ,.wtr a,e=>plainT e&&bJ Γ a e
 |Γ,.not a,e=>(z7 e).any λv=>decide (v.1=.Not)&&vF Γ a v.2
 |_,_,_=>Z6
end
structure Zok (Γ:Gw)(Z:Wc)(CX:CXT)(P:cg)(w:World)(K:Z5)(mg:Str->Option Value)(base:Heap)(r:Nat):Prop where
 kk:Z.K=K
 mm:Z.mg=mg
 fn:∀(j:Nat) x n,Γ.fn[j]?=Z9 (x,n)->∃sp f fd ps k,Z.fn[j]?=Z9 sp/\k<=r/\FnOk P w K mg base CX k f fd ps sp/\mg x=Z9 (.ref f)/\Z3 K (.ref f)=Z7/\Binds K fd ps []
 me:∀(j:Nat) m n,Γ.me[j]?=Z9 (m,n)->∃C sp f fd ps k,Z.me[j]?=Z9 (C,m,sp)/\k<=r/\FnOk P w K mg base CX k f fd ps sp/\uB K C/\Meth K C m f/\Binds K fd ps []
 cl:∀(j:Nat) x n,Γ.cl[j]?=Z9 (x,n)->∃C sp f fd ps k,Z.cl[j]?=Z9 (C,sp)/\k+1<=r/\FnOk P w K mg base CX k f fd ps sp/\Mk K C f/\mg x=Z9 (.ref C)/\Binds K fd ps []
 gi:∀(j:Nat) x,Γ.gi[j]?=Z9 x->∃n t,Z.gi[j]?=Z9 n/\mg x=Z9 (.int n t)
 hf:∀(j:Nat) x n,Γ.hf[j]?=Z9 (x,n)->∃sp f fd ps k,Z.hf[j]?=Z9 (f,sp)/\k<=r/\FnOk P w K mg base CX k f fd ps sp/\mg x=Z9 (.ref f)/\Z3 K (.ref f)=Z7/\Binds K fd ps []
 md:∀(j:Nat) m n,Γ.md[j]?=Z9 (m,n)->∃C sp f fd ps k,Z.md[j]?=Z9 (C,m,sp)/\k<=r/\FnOk P w K mg base CX k f fd ps sp/\uB K C/\Meth K C m f/\Binds K fd ps [.none]
 mq:∀(j:Nat) m kn,Γ.mq[j]?=Z9 (m,kn)->∃C sp f fd ps k,Z.mq[j]?=Z9 (C,m,sp)/\k<=r/\FnOk P w K mg base CX k f fd ps sp/\uB K C/\Meth K C m f/\qY K fd ps [kn] JZ JZ
structure Wok (Γ:Gw)(Z:Wc)(CX:CXT)(X:Cx)(r:Nat):Prop extends Zok Γ Z CX X.prog X.w X.K X.mg X.base r where
 ck:Cok Γ.g Z.Κ Z.Φ X r
 room:Γ.g.cm=Z7->Room r X.A
 px:z6d CX X Z.E
 xf:∀f,Γ.xf=Z9 f->∃v,Z.xf=Z9 v/\∀n c,Γ.g.xc=Z9 (n,c)->∀p q,z28 (.Name n p)=Z7->PE X (.Attribute (.Name n p) f q) (λ_ H Q=>Q v H)
 J2:∀outer H s e s',¬CX outer H s (λ_ _ _=>False) e s'
section
variable {Γ:Gw}{Z:Wc}{CX:CXT}{X:Cx}{r:Nat}
structure We (w:W):Prop where
 E:∀(Γ:Gw) (Z:Wc) (CX:CXT) (X:Cx) (r:Nat) (e:Expr),Wok Γ Z CX X r->bJ Γ w e=Z7->PE X e (wE Z w)
 A:∀(Γ:Gw) (Z:Wc) (CX:CXT) (X:Cx) (r:Nat) (es:List Expr),Wok Γ Z CX X r->pZ Γ w es=Z7->PA X es (wA Z w)
 T:∀(Γ:Gw) (Z:Wc) (CX:CXT) (X:Cx) (r:Nat) (e:Expr),Wok Γ Z CX X r->vF Γ w e=Z7->PT X e (wT Z w)/\((∃o l p,e=.BoolOp o l p)->PW X e (wT Z w))
theorem We.x (h:∀Γ Z CX X r e,Wok Γ Z CX X r->bJ Γ w e=Z7->PE X e (wE Z w))(a:∀Γ es,pZ Γ w es=Z6)(b:∀Γ e,vF Γ w e=Z6):We w where
 E:=h
 A:=λΓ Z CX X r es k z=>ff (a Γ es) z
 T:=λΓ Z CX X r e k z=>ff (b Γ e) z
theorem We.t (h:∀Γ Z CX X r e,Wok Γ Z CX X r->vF Γ w e=Z7->PT X e (wT Z w)/\((∃o l p,e=.BoolOp o l p)->PW X e (wT Z w)))(a:∀Γ e,bJ Γ w e=Z6)(b:∀Γ es,pZ Γ w es=Z6):We w where
 E:=λΓ Z CX X r e k z=>ff (a Γ e) z
 A:=λΓ Z CX X r es k z=>ff (b Γ es) z
 T:=h
theorem J3:∀{w:W} {es:List Expr},pZ Γ w es=Z7->(es.all λe=> !isStar e)=Z7
 |.nil,es,h=>by cases fJ h;rfl
 |.cons a r,[],h=>by cases h
 |.cons a r,e::es,h=>by obtain⟨b,_,c⟩:=aP h;rw[eg,b,J3 c];rfl
theorem Wok.rm (k:Wok Γ Z CX X r)(hc:Γ.g.cm=Z7)(h:j<=r):Room j X.A:=(k.room hc).mono h
theorem eqB {c:Type} [BEq c] [LawfulBEq c] {a b:c}(h:(a==b)=Z7):a=b:=eq_of_beq h
theorem J4 (h:((rQ e).any λv=>decide (v.2.1=[c])&&(aX v.2.2).any λr=>z5q c&& !(gh c r)&&bJ Γ a v.1&&bJ Γ b r)=Z7):∃l r p,e=.Compare l [c] [r] p/\z5q c=Z7/\gh c r=Z6/\bJ Γ a l=Z7/\bJ Γ b r=true:=by obtain⟨⟨l,o,rs⟩,g,i⟩:=aG h;obtain⟨p,rfl⟩:=sD g;obtain⟨j,d⟩:=aE i;obtain⟨r,hr,f⟩:=aG d;cases ye j;cases eK hr;obtain⟨d,f,k,m⟩:=bE f;exact⟨l,r,p,rfl,d,cE f,k,m⟩
theorem TC {d:Bool}(h:((rQ e).any λv=>decide (v.2.1=[if d then .IsNot else .Is])&&(aX v.2.2).any λr=>decide (gL r=Z9 .none)&&bJ Γ a v.1)=Z7):∃l j b p,e=.Compare l [if d then .IsNot else .Is] [.Constant .none j b] p/\bJ Γ a l=true:=by obtain⟨⟨l,o,rs⟩,f,g⟩:=aG h;obtain⟨p,rfl⟩:=sD f;obtain⟨i,k⟩:=aE g;obtain⟨r,hr,c⟩:=aG k;cases ye i;cases eK hr;obtain⟨c,m⟩:=aE c;obtain⟨j,b,rfl⟩:=uV (ye c);exact⟨l,j,b,p,rfl,m⟩
theorem y7 (G:We v)(Y:We c)(ie:We x):∀Γ Z CX X r e,Wok Γ Z CX X r->bJ Γ (.lc J L g t en v c x) e=Z7->PE X e (wE Z (.lc J L g t en v c x))/\∀{y:Str} {w d:Pos} {i:Nat},X.N.Nodup->X.N[i]?=Z9 y->Loc X.env.scope y->Sto X y->PS X (.Assign [.Name y w] e d) (iH (wE Z (.lc J L g t en v c x)) (mY i)):=by
 intro Γ Z CX X r e k h;obtain⟨m,h⟩:=aE h;obtain⟨⟨el,gs,a⟩,hv,o⟩:=aG h;obtain⟨pos,rfl⟩:=yG hv;obtain⟨⟨M,p,q,ka⟩,hg,o⟩:=aG o;cases eK hg;obtain⟨h0,j,h7,A,o⟩:=dG o;obtain⟨h1,h3,h5,O⟩:=bE h0;cases yh h1;have B:=Ht k.ck.hN k.ck.hs h3;have P:=λC b s H=>k.ck.blk B.kind (ye h5) C b s H;have Q:∀C b s H,Wok (AY Γ a g) {Z with E:=λ_ _ _=>False,xf:=Z8} CX (blk X a g C b s H) r:=λC b s H=>⟨⟨k.kk,k.mm,k.fn,k.me,k.cl,k.gi,k.hf,k.md,k.mq⟩,P C b s H,k.room,λR σ H s e s' I z=>(k.J2 _ _ _ _ _ z).elim,λf z=>(by cases z),k.J2⟩
 have S:PI X M p (AV X.K en (wE Z v)):=by
  cases en with
  |false=>exact Tw (G.E Γ Z CX X r _ k j)
  |true=>obtain⟨t1,j⟩:=aE j;obtain⟨⟨f,es⟩,hf,j⟩:=aG j;obtain⟨_,_,rfl⟩:=gR hf;obtain⟨D,u2,u3⟩:=aP j;obtain⟨y,hy,u5⟩:=aG u3;cases eK hy;obtain⟨u6,u4⟩:=aE u5;have D:=eqB D;subst D;obtain⟨_,_,_,rfl⟩:=DY t1;obtain⟨g1,g2,g3,g4⟩:=k.ck.blt u2;exact Tz g2 g1 (cE u6) (G.E Γ Z CX X r _ k u4)
 have ht:∀C b s H,nJ (blk X a g C b s H) q (wT {Z with E:=λ_ _ _=>False,xf:=Z8} c):=λC b s H=>by
  rcases q with _|⟨y,_|⟨z,l⟩⟩
  .have :c=.nil:=by cases c<;>first|rfl|cases A
   subst this;exact Hu
  .exact Hv (Y.T _ _ CX _ r _ (Q C b s H) A).1
  .cases A
 have u:∀C b s H,PG (blk X a g C b s H) M (tDG X.K t):=λC b s H=>uX (P C b s H) h7;have U:∀C b s H,PE (blk X a g C b s H) el (wE {Z with E:=λ_ _ _=>False,xf:=Z8} x):=λC b s H=>ie.E _ _ CX _ r _ (Q C b s H) o;have F:=z9g (pos:=pos) (k.ck.calm m) B S u ht U (sF O _);rw[<-k.kk]at F;refine⟨F,λ{y w d i} nd V l2 W=>?_⟩;cases hb:(X.env.blockKind==.function&&X.env.kindOf y==Z9 .local&&w.line==pos.line&& !(a.names.any λ(n,k)=>n==y&&(k==.local||k==.cell)))with
 |false=>exact z9e nd V l2 F (by rw[uY,hb]) W
 |true=>
  have hl:X.env.scope.names.lookup y=Z9 .local:=by simp at hb;exact hb.1.1.2
  have:=z4s (spos:=d) (k.ck.calm m) nd V hl W.2 B S u ht U (by rw[uY,hb]) (sF O _);rw[<-k.kk]at this;exact this
theorem bY (w:W):We w:=by
 induction w with
 |pur c=>exact We.x (λΓ Z CX X r e k h=>by show PE X e (tD Z.K (aF Z.Κ Z.Φ c));rw[k.kk];exact(all c).E Γ.g X r e k.ck h) (λ_ _=>rfl) λ_ _=>rfl
 |raw i=>exact We.x (λΓ Z CX X r e k h=>by obtain⟨x,p,rfl,h⟩:=gT h;obtain⟨h1,h2,h3,h4⟩:=k.ck.aH h;exact qQ h1 h2 h3 h4) (λ_ _=>rfl) λ_ _=>rfl
 |bin op a b ia ib=>exact We.x (λΓ Z CX X r e k h=>by obtain⟨v,hv,h9⟩:=aG h;obtain⟨p,rfl⟩:=DM hv;obtain⟨h1,h2,h3,h4⟩:=bE h9;cases ye h1;show PE X _ (iJ (oM Z.K (cK _)) _ _);rw[k.kk];exact B6 (HD _ h2) (ia.E Γ Z CX X r _ k h3) (ib.E Γ Z CX X r _ k h4)) (λ_ _=>rfl) λ_ _=>rfl
 |cmp op a b ia ib=>exact We.x (λΓ Z CX X r e k h=>by obtain⟨_,_,_,rfl,h2,h3,h4,h5⟩:=J4 h;show PE X _ (iJ (oJ Z.K (mB (cmpD _))) _ _);rw[k.kk];exact GZ (Af k.ck.hu _ h2) (ia.E Γ Z CX X r _ k h4) (ib.E Γ Z CX X r _ k h5) h3) (λ_ _=>rfl) λ_ _=>rfl
 |and a b ia ib=>exact We.x (λΓ Z CX X r e k h=>by
  obtain⟨⟨o,xs,p⟩,hv,h9⟩:=aG h;cases lO hv;obtain⟨h1,h2⟩:=aE h9;cases ye h1;rcases yJ h2 with⟨x,y,rfl,h3,h4⟩|⟨x,y,z,t,rfl,h3,h4⟩
  .exact BQ (ia.E Γ Z CX X r _ k h3) (BP (ib.E Γ Z CX X r _ k h4))
  .exact BQ (ia.E Γ Z CX X r _ k h3) (ib.E Γ Z CX X r _ k h4)) (λ_ _=>rfl) λ_ _=>rfl
 |tup xs ia=>exact We.x (λΓ Z CX X r e k h=>by obtain⟨v,hv,h9⟩:=aG h;obtain⟨_,_,rfl⟩:=AA hv;exact G3 (ia.A Γ Z CX X r _ k h9)) (λ_ _=>rfl) λ_ _=>rfl
 |lst xs ia=>exact We.x (λΓ Z CX X r e k h=>by obtain⟨v,hv,h9⟩:=aG h;obtain⟨_,rfl⟩:=DN hv;exact B8 (ia.A Γ Z CX X r _ k h9)) (λ_ _=>rfl) λ_ _=>rfl
 |eA=>exact We.x (λΓ Z CX X r e k h=>by obtain⟨⟨a,b⟩,hv,h9⟩:=aG h;obtain⟨_,rfl⟩:=yE hv;obtain⟨h1,h2⟩:=aE h9;cases fJ h1;cases fJ h2;exact He) (λ_ _=>rfl) λ_ _=>rfl
 |ix a b ia ib=>exact We.x (λΓ Z CX X r e k h=>by obtain⟨v,hv,h9⟩:=aG h;obtain⟨_,rfl⟩:=uW hv;obtain⟨h1,h2,h3⟩:=aP h9;show PE X _ (iJ (lH Z.K) _ _);rw[k.kk];exact Cc (HK k.ck.hu) (ia.E Γ Z CX X r _ k h2) (ib.E Γ Z CX X r _ k h3) (C6 h1)) (λ_ _=>rfl) λ_ _=>rfl
 |len a ia=>exact We.x (λΓ Z CX X r e k h=>by obtain⟨⟨x,es⟩,hv,h9⟩:=aG h;obtain⟨_,_,rfl⟩:=gR hv;obtain⟨h1,h2,h3⟩:=aP h9;obtain⟨y,hy,h4⟩:=aG h3;cases eK hy;obtain⟨h4,h5⟩:=aE h4;have h1:x=("len":Str):=eqB h1;subst h1;obtain⟨g1,g2,g3,g4⟩:=k.ck.blt h2;show PE X _ (mZ (z7o Z.K (hX "len")) _);rw[k.kk];exact uG HM g2 (show db "len"=_ by decide+kernel) (cV (ia.E Γ Z CX X r _ k h5) hU (cE h4)) (by rw[eg,h4];rfl) g1 g4 g3) (λ_ _=>rfl) λ_ _=>rfl
 |cal j as ia=>exact We.x (λΓ Z CX X r e k h=>by
  obtain⟨⟨x,es⟩,hv,h9⟩:=aG h;obtain⟨_,_,rfl⟩:=gR hv;obtain⟨h1,h2,h3,h4⟩:=bE h9;obtain⟨jZ,h4⟩:=aE h4;obtain⟨y,es,rfl⟩:=uU h4;obtain⟨g1,g2⟩:=k.ck.gl h1;obtain⟨sp,f,fd,ps,n,c1,c2,c3,c4,c5,c6⟩:=k.fn j _ _ (eqB h2);obtain⟨s1,s2⟩:=eg.symm.trans (J3 h3) |> bn.mp;have ee:wE Z (.cal j as)=uC sp [] Z.E (wA Z as):=by show(match Z.fn[j]? with|some sp=>uC sp [] Z.E (wA Z as)|none=>mM)=_;rw[c1]
  rw[ee];exact zdc c3 (k.rm jZ c2) g1 c4 c5 c6 .nil k.px (ia.A Γ Z CX X r _ k h3) g2 (eX (cE s1)) (nK s2)) (λ_ _=>rfl) λ_ _=>rfl
 |tp c=>exact We.t (λΓ Z CX X r e k h=>by show PT X e (dR Z.K (cP Z.Κ Z.Φ c))/\(_->PW X e (dR Z.K (cP Z.Κ Z.Φ c)));rw[k.kk];exact(all c).T Γ.g X r e k.ck h) (λ_ _=>rfl) λ_ _=>rfl
 |tc op a b ia ib=>exact We.t (λΓ Z CX X r e k h=>by obtain⟨_,_,_,rfl,h2,h3,h4,h5⟩:=J4 h;refine⟨?_,λ⟨_,_,_,z⟩=>by cases z⟩;show PT X _ (wM (iJ (oJ Z.K (mB (cmpD _))) _ _));rw[k.kk];exact G0 (Af k.ck.hu _ h2) (ia.E Γ Z CX X r _ k h4) (ib.E Γ Z CX X r _ k h5) h3) (λ_ _=>rfl) λ_ _=>rfl
 |ti ng a ia=>exact We.t (λΓ Z CX X r e k h=>by
  obtain⟨_,_,_,_,rfl,h2⟩:=TC h;have ha:=ia.E Γ Z CX X r _ k h2;refine⟨?_,λ⟨_,_,_,z⟩=>by cases z⟩;cases ng with
  |true=>exact GO (MS ha)
  |false=>exact GO (MR ha)) (λ_ _=>rfl) λ_ _=>rfl
 |wtr a ia=>exact We.t (λΓ Z CX X r e k h=>by have h:(plainT e&&bJ Γ a e)=true:=h;obtain⟨h1,h2⟩:=aE h;refine⟨?_,λ⟨_,_,_,z⟩=>by subst z;cases h1⟩;show PT X _ (J1 Z.K _);rw[k.kk];exact z8u (ia.E Γ Z CX X r _ k h2) (IV h1 _)) (λ_ _=>rfl) λ_ _=>rfl
 |not a ia=>exact We.t (λΓ Z CX X r e k h=>by obtain⟨⟨o,x⟩,hv,h9⟩:=aG h;obtain⟨p,rfl⟩:=rZ hv;obtain⟨h1,h2⟩:=aE h9;cases ye h1;exact⟨GP (ia.T Γ Z CX X r _ k h2).1,λ⟨_,_,_,z⟩=>by cases z⟩) (λ_ _=>rfl) λ_ _=>rfl
 |gA f=>exact We.x (λΓ Z CX X r e k h=>by
  obtain⟨⟨x,n,p⟩,hv,h9⟩:=aG h;cases sE hv;obtain⟨h1,h0,h2,h3⟩:=bE h9;have h1:n=f:=eqB h1;subst h1;obtain⟨y,q,rfl,h4⟩:=gT h2;obtain⟨⟨m,c⟩,h5,h6⟩:=aG h4;have h6:m=y:=eqB h6;subst h6;obtain⟨v,e1,e2⟩:=k.xf n (eqB h3);have ee:wE Z (.gA n)=λ_ H Q=>Q v H:=by show(match Z.xf with|some v=>(λ_ H Q=>Q v H:TE)|none=>mM)=_;rw[e1]
  rw[ee];exact e2 m c h5 _ _ h0) (λ_ _=>rfl) λ_ _=>rfl
 |gi j=>exact We.x (λΓ Z CX X r e k h=>by
  obtain⟨x,p,rfl,h1⟩:=gT h;obtain⟨h2,h3⟩:=aE h1;obtain⟨g1,g2⟩:=k.ck.gl h2;obtain⟨n,t,e1,e2⟩:=k.gi j x (eqB h3);have ee:wE Z (.gi j)=λ_ H Q=>Q (.int n) H:=by show(match Z.gi[j]? with|some n=>(λ_ H Q=>Q (.int n) H:TE)|none=>mM)=_;rw[e1]
  rw[ee];exact λpins s σ H Q I h=>z3v I g1 e2 ⟨.int n,H,I,⟨t,rfl⟩,h⟩ g2) (λ_ _=>rfl) λ_ _=>rfl
 |pY a b ia ib=>exact We.x (λΓ Z CX X r e k h=>by obtain⟨v,hv,h9⟩:=aG h;obtain⟨_,rfl⟩:=uW hv;obtain⟨h1,h2,h3⟩:=aP h9;show PE X _ (iJ (uF Z.K) _ _);rw[k.kk];exact Cc Hl (ia.E Γ Z CX X r _ k h2) (ib.E Γ Z CX X r _ k h3) (C6 h1)) (λ_ _=>rfl) λ_ _=>rfl
 |AX a ia=>exact We.x (λΓ Z CX X r e k h=>by obtain⟨jZ,h⟩:=aE h;obtain⟨⟨x,es⟩,hv,h9⟩:=aG h;obtain⟨_,_,rfl⟩:=gR hv;obtain⟨h1,h2,h3⟩:=aP h9;obtain⟨u,hu,h4⟩:=aG h3;cases eK hu;obtain⟨⟨x',es'⟩,ER,TF⟩:=aG h4;obtain⟨_,_,rfl⟩:=gR ER;obtain⟨ET,TH,TJ⟩:=aP TF;obtain⟨y,hy,TK⟩:=aG TJ;cases eK hy;obtain⟨h5,h6⟩:=aE TK;have h1:x=("sorted":Str):=eqB h1;subst h1;have ET:x'=("set":Str):=eqB ET;subst ET;obtain⟨g1,g2,g3,g4⟩:=k.ck.blt h2;obtain⟨TL,TM,TN,TQ⟩:=k.ck.blt TH;show PE X _ (sR Z.K _);rw[k.kk];exact zp6 (k.ck.calm jZ) g2 (show db "sorted"=_ by decide+kernel) g1 g4 g3 TM (show db "set"=_ by decide+kernel) TL TQ TN (cE h5) (ia.E Γ Z CX X r _ k h6)) (λ_ _=>rfl) λ_ _=>rfl
 |AW a ia=>exact We.x (λΓ Z CX X r e k h=>by obtain⟨⟨x,es⟩,hv,h9⟩:=aG h;obtain⟨_,_,rfl⟩:=gR hv;obtain⟨h1,h2,h3⟩:=aP h9;obtain⟨y,hy,h4⟩:=aG h3;cases eK hy;obtain⟨h4,h5⟩:=aE h4;have h1:x=("list":Str):=eqB h1;subst h1;obtain⟨g1,g2,g3,g4⟩:=k.ck.blt h2;show PE X _ (mZ (rAgg Z.K "list") _);rw[k.kk];exact z3 PL g2 (show db "list"=_ by decide+kernel) (cV (ia.E Γ Z CX X r _ k h5) hU (cE h4)) (by rw[eg,h4];rfl) g1 g4 g3) (λ_ _=>rfl) λ_ _=>rfl
 |lc nt js N' t en it c x ii ic ie=>exact We.x (λΓ Z CX X r e k h=>(y7 ii ic ie Γ Z CX X r e k h).1) (λ_ _=>rfl) λ_ _=>rfl
 |nil=>exact⟨λ_ _ _ _ _ _ _ h=>ff rfl h,λΓ Z CX X r es k h=>by cases fJ h;exact hU,λ_ _ _ _ _ _ _ h=>ff rfl h⟩
 |cons a q ia iq=>exact⟨λ_ _ _ _ _ _ _ h=>ff rfl h,λΓ Z CX X r es k h=>by
  cases es with
  |nil=>cases h
  |cons e es=>obtain⟨h1,h2,h3⟩:=aP h;exact cV (ia.E Γ Z CX X r _ k h2) (iq.A Γ Z CX X r _ k h3) (cE h1),λ_ _ _ _ _ _ _ h=>ff rfl h⟩
end
theorem AZ (outer:List Env)(H:Hp)(s:aq)(e:Value)(a:aq):¬CXE P w base outer H s (λ_ _ _=>False) e a:=λz=>by obtain⟨_,_,_,_,_,_,z⟩:=z;exact z
def qA (X:Cx)(pn:List (Addr×Obj))(E:Value->aq->Prop):Cx:={X with pn:=pn,xe:=E}
section
variable {X:Cx}{pins dU:List (Addr×Obj)}{σ:L2.St}{H:Hp}{s:aq}{E:Value->aq->Prop}{pn:List (Addr×Obj)}
theorem TR (ok:X.Ok):(qA X pn E).Ok:=⟨ok.mod,ok.kind,ok.glob,ok.blt,ok.above,ok.inj,ok.has,ok.mX,ok.hd,ok.frames,ok.pJ,ok.gA,ok.bs,ok.iG,ok.fO,ok.fP,ok.bV,ok.kU,ok.zR⟩
theorem TU (k:Cok a Κ Φ X r)(hx:a.xc=Z8)(pn:List (Addr×Obj))(E:Value->aq->Prop):Cok a Κ Φ (qA X pn E) r:=⟨k.hN,k.hs,k.nd,k.fn,k.kind,k.free,k.fns,k.cst,k.mJ,k.room,k.calm,k.hu,k.jY,k.yH,λn c z=>(by rw[hx]at z;cases z),k.xk⟩
end
section
variable {P:cg}{w:World}{A:d8}{E:Value->aq->Prop}{h:Heap}{g:Array q8}{d:Drawn}{t:Nat}{os:oa}
variable {nm q:Str}{C N:Addr}{bs bm bB:List Value}{hdct:Bool}{sn:List Str}{sub:List Value}{ab:Bool}{col:Option Bool}{dd:Option Addr}{k0 k1 k2 k3 k5:Option Value}{B newId initId:String}{mN:Str->Option Value}{us:List Value}{f:Addr}{o:Obj}
theorem zr7 (F:ExcBaseFacts B newId initId bB)(T:uh h bB bm)(a:h.get? C=Z9 (qi nm q C N bs bm hdct sn sub ab col dd k0 k1 k2 k3 k5 newId))(hN:h.Ns N mN)(v:mN "__init__"=Z9 (.ref f))(hf:h.get? f=Z9 o)(hc:o.cls=.type "function")
  (go:∀n e,h.objs.size<=e->ub h n e (.ref C) us->wpAny (model P w) A (call (.ref f) (.ref e::us)) (λr p=>r=.none/\Q (.done (.ret (.ref e))) p) E ⟨n,g,d,t,os⟩) (x:us.length<=bh):
  wpAny (model P w) A (Builtin.«type.__call__» ⟨.ref C::us,[]⟩) Q E ⟨h,g,d,t,os⟩:=by
 repeat (first|(with_reducible refine wpAny_madeBy_exc a ?_)|(with_reducible refine cw a ?_)|wp_step)
 refine codeAny_call_builtin_code (Code.quiet_builtin _ F.quiet) (wpAny_check_new_subT F T a (codeAny_exc_new_subT F T a ?_ x));generalize s:({cls:=.type "tuple",data:=.seq us.toArray}:Obj)=i;generalize l:({cls:=.ref C,data:=.fields #[.ref h.objs.size,.none,.none,.none,.bool Z6,.none]}:Obj)=c;have keep:∀b u,h.get? b=Z9 u->((h.push i).push c).get? b=Z9 u:=λb u z=>af _ (af _ z);have j:((h.push i).push c).get? (h.objs.size+1)=Z9 c:=qk (by rw[nh]) (by rw[<-l];rfl);have m:((h.push i).push c).get? h.objs.size=Z9 i:=af _ (qk rfl (by rw[<-s];rfl));have k:c.cls=.ref C:=by rw[<-l]
 have self:(ZS C::bm).contains (.ref C)=true:=by simp
 repeat (first|(with_reducible refine cw j ?_;rw[k])|(with_reducible refine ju (keep _ _ a) ?_;rw[self])|wp_step)
 refine wpAny_typeLookup_tail (keep _ _ a) (hN.keeps keep) (T.keeps keep) F.mroIs F.init.lookup ?_;rw[v];apply dz;apply ac;refine ac (kz ⟨o,keep _ _ hf,hc⟩ ?_);have made:ub h ((h.push i).push c) (h.objs.size+1) (.ref C) us:=⟨keep,jk (oo _),h.objs.size,by rw[j,<-l],jk (ai _),by rw[m,<-s]⟩;refine ah (ac (gq (go _ _ (oo _) made) (λr p z=>?_) λ_ _ z=>z));obtain⟨rfl,z⟩:=z
 wp_walk
 exact z
theorem zw0 (F:ExcBaseFacts B newId initId bB)(T:uh h bB bm)(a:h.get? C=Z9 (qi nm q C N bs bm hdct sn sub ab col dd k0 k1 k2 k3 k5 newId))(hN:h.Ns N mN)(c:mN "__init__"=Z9 (.ref f))(hf:h.get? f=Z9 o)(hc:o.cls=.type "function")
  (go:∀b e,h.objs.size<=e->ub h b e (.ref C) us->wpAny (model P w) (A.under (.builtin "type.__call__" ⟨.ref C::us,[]⟩)) (call (.ref f) (.ref e::us)) (λr i=>r=.none/\Q (.ref e) i) E ⟨b,g,d,t,os⟩) (j:us.length<=bh):
  wpAny (model P w) A (call (.ref C) us) Q E ⟨h,g,d,t,os⟩:=by
 have k:=tc_lookup;have l2:=tc_bind (.ref C);apply vo;apply tf
 repeat (any_goals (first|(with_reducible refine cw a ?_)|assumption|wp_step))
 exact⟨rfl,codeAny_call_builtin_at (Code.quiet_builtin _ (by decide+kernel)) entry_typeCall (wpAny_check_type_call_sub a (zr7 F T a hN c hf hc go j))⟩
end
section
open Builtin
open Builtin.ObjectAttr
structure XF (K:Z5)(C:Addr)(f:Str):Prop where
 ex:fI K C=Z7
 hd:∀dd cd sl,K.lookup C=Z9 ⟨.type "type",dd,.cls cd,sl⟩->cd.hasDict=Z7
 sa:Z4 K (.ref C) "__setattr__"=Z9 (Z9 (.builtin "object.__setattr__"))
 nf:Z4 K (.ref C) f=Z9 Z8
 ga:Z4 K (.ref C) "__getattribute__"=Z9 (Z9 (.builtin "BaseException.__getattribute__"))
 gt:Z4 K (.ref C) "__getattr__"=Z9 Z8
 ob:Z0 K (.ref C) (.type "object")=Z9 Z7
 be:Z0 K (.ref C) (.type "BaseException")=Z9 Z7
theorem J5:∀{l:List Value},uh h oQ l->refuseLoop self what oQ=pure ()->refuseLoop self what l=pure ()
 |_,.base,e=>e
 |_,.own _ _ _ T,e=>by rw[refuseLoop_ref];exact J5 T e
section
variable {prog:cg}{w:World}{A:d8}{E:Value->aq->Prop}{K:Z5}{h:Heap}{g:Array q8}{d:Drawn}{t:Nat}{os:oa}{C a:Addr}{ob:Obj}{vs:Array Value}{f:Str}{u:Value}
def J6 (h:Heap)(a:Addr)(ob:Obj)(f:Str)(u:Value)(h':Heap):Prop:=∃dp,h.get? dp=Z8/\dp≠a/\h.objs.size<=dp/\h'.get? a=Z9 {ob with dict:=Z9 dp}/\h'.Ns1 dp (λy=>if y=f then Z9 u else Z8)/\∀b o,b≠a->h.get? b=Z9 o->h'.get? b=Z9 o
theorem zf9 (X:K.In h)(x:XF K C f)(k:h.get? a=Z9 ob)(hc:ob.cls=.ref C)(hd:ob.dict=Z8)(da:ob.data=.fields vs)
  (go:∀l p,J6 h a ob f u l->Q (.done (.ret .none)) ⟨l,g,d,p,os⟩):
  wpAny (model prog w) A (Builtin.«object.__setattr__» ⟨[.ref a,.str f vv9,u],[]⟩) Q E ⟨h,g,d,t,os⟩:=by
 obtain⟨bm,⟨N,nm,q,bs,j,Y,sub,Z,H,dd,k0,k1,k2,k3,k5,mN,B,hN,T⟩,_⟩:=XC.mk X x.ex;have I:j=true:=by obtain⟨J,cd,L,y0,y1,y2,y3,y5,D,_⟩:=uS x.ex;have O:=x.hd _ _ _ D;have F:=X _ _ D;rw[B]at F;cases F;exact O
 have c:=J5 (self:=.ref a) (what:="__setattr__") T (by kernel_rfl);have P:=ZZ (M:=model prog w) X x.nf
 repeat (first|rw[refuse_eq]|(rw[refuseLoop_ref,c])|(with_reducible refine cw k ?_;rw[hc])|with_reducible refine wpAny_mroOf_exc B ?_|with_reducible refine P.at ?_|wp_step)
 rw[hd,yb (by simp[typeHasDict]),da];have g1:(h.push {cls:=.type "dict",data:=.dict #[]}).get? a=Z9 ob:=af _ k;have na:=cu (bj k);refine ac (wpAny_alloc' (ac (wpAny_update' g1 (ah ?_))));generalize hh:((h.push {cls:=.type "dict",data:=.dict #[]}).update a λo=>{cls:=o.cls,dict:=Z9 h.objs.size,data:=o.data,slots:=o.slots})=m;have gd:m.get? h.objs.size=Z9 {cls:=.type "dict",data:=.dict #[]}:=by rw[<-hh];exact(i7 _ _ _ _ (Ne.symm na)).trans (qk rfl rfl)
 have ga:m.get? a=Z9 {ob with dict:=Z9 h.objs.size}:=by rw[<-hh];refine e8 _ g1 ?_;have fr:=(Heap.get?_some_iff.mp k).2;obtain⟨oc,od,r,R⟩:=ob;cases r<;>first|rfl|exact fr
 have keep:∀b o,b≠a->h.get? b=Z9 o->m.get? b=Z9 o:=λb o n e=>by rw[<-hh];exact(i7 _ _ _ _ n).trans (af _ e)
 have nd:m.Ns h.objs.size (λ_=>Z8):=⟨_,#[],_,gd,rfl,λe z=>absurd z (by simp),λ_=>rfl⟩
 delta storeInDict newKeyGuard
 refine ac (ah (ac (wpAny_nsSet1 (Heap.Ns1.of_empty nd) λl n1 G=>?_)));obtain⟨oD,S,U,s,TV,v⟩:=n1.count (Within.cons f u Within.nil);have i:[f].length<=bh+1:=by rw[dw];exact(by decide:1<=16777216+1)
 have y:=bp v i;refine ac (wpAny_lookBehind s (TV▸pastItsLine_dict y) ?_)
 wp_walk
 refine go l _ ⟨h.objs.size,jk (ai _),Ne.symm na,ai _,(G.2 a na).trans ga,n1,λb o n e=>(G.2 b (cu (bj e))).trans (keep b o n e)⟩
theorem zfo {M:Model}{b:Value}{Q:Unit->aq->Prop}(X:K.In h)(x:XF K C f)(c:h.get? a=Z9 ob)(e:ob.cls=.ref C)(i:Q () ⟨h,g,d,t,os⟩):
  wpAny M A (nz "object.__setattr__" ⟨[.ref a,b,u],[]⟩) Q E ⟨h,g,d,t,os⟩:=by
 have j:xp "object.__setattr__"=Z9 .slot:=by decide+kernel
 have k:splitId "object.__setattr__"=Z9 ("object","__setattr__"):=by decide+kernel
 have l:=W.looks_subIn (M:=M) X x.ob;have m:=PySem.F.args_object_setattr_3 (.ref a) b u;simp only[nz,j,k];refine ac ?_;unfold sr
 repeat (first|(with_reducible refine cw c ?_;rw[e])|with_reducible refine l.at ?_|wp_step)
 exact i
theorem zog (X:K.In h)(x:XF K C f)(e:h.get? a=Z9 ob)(hc:ob.cls=.ref C)(hd:ob.dict=Z8)(da:ob.data=.fields vs)
  (go:∀c b,J6 h a ob f u c->Q () ⟨c,g,d,b,os⟩):wpAny (model prog w) A (setAttr (.ref a) f u) Q E ⟨h,g,d,t,os⟩:=by
 have i:=PySem.F.slot_list_setattr.bind (.ref a)
 repeat (any_goals (first|assumption|(with_reducible refine cw e ?_;rw[hc])|with_reducible refine(ZZ (M:=model prog w) X x.sa).at ?_|wp_step))
 refine jn PySem.F.slot_list_setattr.plain PySem.F.entry_object_setattr (zfo X x e hc (zf9 X x e hc hd da λc b p=>?_))
 repeat (any_goals (first|assumption|wp_step))
 exact go c b p
theorem zkt (X:K.In h)(x:XF K C f)(c:h.get? a=Z9 ob)(hc:ob.cls=.ref C)(da:ob.data=.fields vs)(hd:ob.dict=Z9 dp)(hn:h.Ns dp k)(l:k f=Z9 u)
  (m:Q (.done (.ret u)) ⟨h,g,d,t,os⟩):wpAny (model prog w) A (Builtin.«object.__getattribute__» ⟨[.ref a,.str f y],[]⟩) Q E ⟨h,g,d,t,os⟩:=by
 obtain⟨bm,⟨N,nm,q,bs,b,z,sub,B,n,D,F,G,H,I,J,L,e,hN,T⟩,_⟩:=XC.mk X x.ex;have o:b=true:=by obtain⟨p,cd,r,O,P,R,S,U,i,_⟩:=uS x.ex;have s:=x.hd _ _ _ i;have j:=X _ _ i;rw[e]at j;cases j;exact s
 have v:=ZZ (M:=model prog w) X x.nf
 repeat (first|(with_reducible refine cw c ?_;rw[hc])|with_reducible refine v.at ?_|wp_step)
 rw[da]
 repeat (first|(with_reducible refine cw c ?_;rw[hc])|with_reducible refine cw e ?_|wp_step)
 rw[hd]
 repeat (first|(with_reducible refine wpAny_nsGet hn ?_;rw[l])|wp_step)
 exact m
theorem zkn {b:Tok}{dp:Addr}{c:Str->Option Value}{R:x9->aq->Prop}(X:K.In h)(x:XF K C f)(e:h.get? a=Z9 ob)(hc:ob.cls=.ref C)(da:ob.data=.fields vs)(hd:ob.dict=Z9 dp)(hn:h.Ns dp c)(i:c f=Z9 u)
  (j:R (.ok (.ret u)) ⟨h,g,d,t,os⟩):ku (model prog w) A (.call (.builtin "BaseException.__getattribute__") ⟨[.ref a,.str f b],[]⟩) R ⟨h,g,d,t,os⟩:=by
 refine jn F.excAttr_ValueError.ga.plain F.entry_bexc_ga ?_;have k:=W.looks_subIn (M:=model prog w) X x.be;have n:=F.args_bexc_ga (.ref a) (.str f b);have l:xp "BaseException.__getattribute__"=Z9 .slot:=by decide+kernel
 have m:splitId "BaseException.__getattribute__"=Z9 ("BaseException","__getattribute__"):=by decide+kernel
 simp only[nz,l,m];refine ac ?_;unfold sr
 repeat (first|(with_reducible refine zkt X x e hc da hd hn i ?_;exact j)|(with_reducible refine cw e ?_;rw[hc])|with_reducible refine k.at ?_|wp_step)
theorem ztx (X:K.In h)(x:XF K C f)(b:h.get? a=Z9 ob)(hc:ob.cls=.ref C)(da:ob.data=.fields vs)(hd:ob.dict=Z9 dp)(hn:h.Ns dp c)(e:c f=Z9 u)(hh:handedOut u=pure u)
  (i:Q u ⟨h,g,d,t,os⟩):wpAny (model prog w) A (getAttrBy (.ref a) (.str f j) Z7 ex) Q E ⟨h,g,d,t,os⟩:=by
 have k:=F.excAttr_ValueError.ga.bind (.ref a);have l:(ex&&onTheHeap (Value.builtin "BaseException.__getattribute__"))=false:=by cases ex<;>rfl
 repeat (any_goals (first|assumption|(with_reducible refine cw b ?_;rw[hc])|with_reducible refine(ZZ (M:=model prog w) X x.ga).at ?_|with_reducible refine(ZZ (M:=model prog w) X x.gt).at ?_|wp_step))
 refine zkn X x b hc da hd hn e ?_
 repeat' first|assumption|wp_step
theorem zqo (X:K.In h)(x:XF K C f)(b:h.get? a=Z9 ob)(hc:ob.cls=.ref C)(da:ob.data=.fields vs)(hd:ob.dict=Z9 dp)(hn:h.Ns dp c)(e:c f=Z9 u)(hh:handedOut u=pure u)
  (i:Q u ⟨h,g,d,t+1,os⟩):wpAny (model prog w) A (getAttr (.ref a) f ex) Q E ⟨h,g,d,t,os⟩:=by
 repeat (any_goals (first|assumption|with_reducible apply ztx X x b hc da hd hn e hh|wp_step))
end
end
def exO (a:Addr)(ob:Obj):HO:=.ext λh=>h.get? a=Z9 ob
def y8:HO->Prop
 |.ext _=>True
 |.xd _=>True
 |_=>False
def iC (H:Hp)(a:Addr):Hp:=λb=>if b=a then Z8 else H b
theorem sS:iC H a a=none:=by unfold iC;rw[ya rfl]
theorem qB (h:b≠a):iC H a b=H b:=by unfold iC;rw[yb h]
section
variable {X:Cx}{pins:List (Addr×Obj)}{σ:L2.St}{H:Hp}{s:aq}{a C:Addr}{ob:Obj}{f:Str}
theorem J7 (I:Inv X b c H s)(h:H a=Z9 (exO a ob)):s.heap.get? a=Z9 ob:=(I.hok a _ h).1
theorem J8 (e:h.get? a=Z9 ob):z1b P w H h a (exO a ob):=⟨e,⟨_,e⟩,λb c p k=>k _ p⟩
theorem Inv.iC (I:Inv X pins g H s)(h:H a=Z9 o)(i:y8 o):Inv X pins g (iC H a) s:=by
 have ne:∀{b u},H b=Z9 u->(y8 u->False)->b≠a:=λ{b u} e n z=>by subst z;rw[h]at e;cases e;exact n i
 have d:∀{b},H b=Z8->Mi.iC H a b=none:=λ{b} e=>by
  unfold Mi.iC;split
  .rfl
  .exact e
 refine⟨I.ok,I.os,I.bare,⟨I.base.keep,I.base.slot,λb o e n j=>d (I.base.free b o e n j),I.base.there,λb f e=>?_,λb o u e=>?_,λb ps e=>?_⟩,I.loc,I.cell,d I.free,λx c e=>d (I.freeC x c e),λp k=>?_,λb o e=>?_,I.len,I.fx⟩
 .have e:=I.base.cG b f e;rw[qB (ne e id)];exact e
 .have e:=I.base.cA b o u e;rw[qB (ne e id)];exact e
 .obtain⟨m,e⟩:=I.base.cH b ps e;exact⟨m,by rw[qB (ne e id)];exact e⟩
 .obtain⟨l,r,t⟩:=I.pin p k;exact⟨l,d r,t⟩
 .have v:b≠a:=by rintro rfl;rw[sS]at e;cases e
  rw[qB v]at e;refine(I.hok b o e).stay (λ_ _ _ q=>q) (λc q=>?_) λc f q=>?_
  .rw[qB (ne q id)];exact q
  .rw[qB (ne q id)];exact q
theorem zkf (I:Inv X pins σ H s)(hO:H a=Z9 (exO a ob))(ry:RelV y u)(h0:s.heap.get? dp=Z8)(hz:s.heap.objs.size<=dp)(na:dp≠a)(ga:h'.get? a=Z9 {ob with dict:=Z9 dp})(ns:h'.Ns1 dp (fun g=>if g=f then Z9 u else Z8))(k:∀b o,b≠a->s.heap.get? b=Z9 o->h'.get? b=Z9 o):
  H dp=Z8/\Inv X pins σ (upd (upd H dp (.xd [(f,y)])) a (exO a {ob with dict:=Z9 dp})) {s with heap:=h',toks:=tk}:=by
 have sT:=I.hok.fresh hz;have ne:∀{b u},H b=Z9 u->(u=exO a ob->False)->b≠a:=λ{b u} e n z=>by subst z;rw[hO]at e;cases e;exact n rfl
 have nd:∀{b u},H b=Z9 u->b≠dp:=λ{b u} e z=>by subst z;rw[sT]at e;cases e
 have up:∀{b u},H b=Z9 u->(u=exO a ob->False)->upd (upd H dp (.xd [(f,y)])) a (exO a {ob with dict:=Z9 dp}) b=Z9 u:=λ{b u} e n=>by rw[aB (ne e n),aB (nd e)];exact e
 have nn:∀{b o},s.heap.get? b=Z9 o->H b=Z8->b≠a/\b≠dp:=λ{b o} e n=>⟨(by rintro rfl;rw[hO]at n;cases n),(by rintro rfl;rw[h0]at e;cases e)⟩;refine⟨sT,I.un ⟨λb o e n _ _=>k b o (nn e n).1 e,λb o e n _ _=>⟨o.slots,k b o (nn e n).1 e⟩,λb o e n _=>?_,λb o e _=>?_,λb xs e=>up e nofun,λb o u e=>up e nofun,λb ps e=>⟨#[],by rw[Array.append_empty];exact up e nofun⟩⟩ λb o e=>?_⟩
 .rw[aB (nn e n).1,aB (nn e n).2];exact n
 .by_cases hb:b=a
  .subst hb;exact⟨_,ga⟩
  .exact⟨o,k b o hb e⟩
 .by_cases hb:b=a
  .subst hb;rw[aT]at e;cases e;exact J8 ga
  .rw[aB hb]at e;by_cases hd:b=dp
   .subst hd;rw[aT]at e;cases e;refine⟨_,ns,λg=>?_⟩;by_cases hg:g=f
    .subst hg;simp;exact ry
    .have :(g==f)=false:=by simpa using hg
     simp only[d5,this,List.lookup_nil,yb hg];exact True.intro
   .rw[aB hd]at e;refine(I.hok b o e).stay (λc v hc q=>k c v ?_ q) (λc q=>up q nofun) λc xs q=>up q nofun;rcases hc with rfl|hc
    .exact hb
    .exact ne hc nofun
def EU (K:Z5)(ta tv:TE)(f:Str):TS:=λD σ H=>tv σ H λy H1=>ta σ H1 λx H2=>∃a C ob vs,x=.ref a/\H2 a=Z9 (exO a ob)/\ob.cls=.ref C/\ob.dict=Z8/\ob.data=.fields vs/\XF K C f/\∀dp,H2 dp=Z8->dp≠a->D.nx σ (upd (upd H2 dp (.xd [(f,y)])) a (exO a {ob with dict:=Z9 dp}))
theorem TX (i:PE X o j)(l:PE X value tv)(hs:l7 value (Z9 (.Attribute o f c)) pos.line X.env=pure Z6):PS X (.Assign [.Attribute o f c] value pos) (EU X.K j tv f):=by intro b s d H D I h;refine plainObj_wpAny_Assign_Attribute (aI (l b s d H _ I h) λu m ⟨y,n,p,r,q⟩=>aI (i b m d n _ p q) λov E ⟨x,F,e,t,a,C,ob,G,ex,g,hc,hd,da,xf,v⟩=>?_) hs;subst ex;obtain rfl:ov=ZS a:=t;refine zog e.dS xf (J7 e g) hc hd da λJ w ⟨dp,h0,na,z,ga,ns,k⟩=>?_;obtain⟨A,B⟩:=zkf e g r h0 z na ga ns k;exact⟨d,_,B,v dp A na⟩
end
def sU (K:Z5)(f:Str):Sp:=λvs H Q _=>∃a C ob ws y,vs=[.ref a,y]/\H a=Z9 (exO a ob)/\ob.cls=.ref C/\ob.dict=Z8/\ob.data=.fields ws/\XF K C f/\∀dp,H dp=Z8->dp≠a->Q .non (upd (upd H dp (.xd [(f,y)])) a (exO a {ob with dict:=Z9 dp}))
structure XI (K:Z5)(C f:Addr):Prop where
 TY:∀dd cd sl,K.lookup C=Z9 ⟨.type "type",dd,.cls cd,sl⟩->Z1 K cd.ns "__init__"=Z9 (Z9 (.ref f))
 fn:W.isFn K (.ref f)=Z7
theorem TZ {K:Z5}(X:K.In h)(G:h.Ns N m)(e:Z1 K N n=Z9 (Z9 v)):m n=Z9 v:=by
 obtain⟨o,es,ep,a,hd,_,hf⟩:=G;unfold Z1 at e;split at e
 .rename_i q;have z:=X _ _ q;rw[a]at z;cases z;cases hd;split at e
  .rename_i b;cases e;rw[<-hf];unfold nsFind findBy;rw[<-vm,b];rfl
  .split at e<;>cases e
 .cases e
theorem XI.at {K:Z5}{C:Addr}(X:K.In h)(q:fI K C=Z7)(x:XI K C f):∃b N nm qn bs a n sub p c d e g k2 i j k o,h.get? C=Z9 (qi nm qn C N bs b a n sub p c d e g k2 i j "ValueError.__new__")/\h.Ns N k/\k "__init__"=Z9 (.ref f)/\uh h oQ b/\h.get? f=Z9 o/\o.cls=.type "function":=by
 obtain⟨d,cd,b,e,g,k2,i,j,l,hm,hd,r,s⟩:=uS q;have hN:h.Ns cd.ns (h.nsMap cd.ns):=.of_isNs (W.isNs_of_in X s);obtain⟨o,t,u⟩:=bc.mp (yh x.fn);refine⟨b,cd.ns,cd.name,cd.qualname,cd.bases,cd.hasDict,cd.slotNames,cd.subclasses,cd.abstract,cd.collection,d,e,g,k2,i,j,h.nsMap cd.ns,o,?_,hN,TZ X hN (x.TY _ _ _ l),W.tail_of_in X r,X _ _ t,u⟩;have m:=X _ _ l;cases cd
 dsimp only at hm hd
 rw[hm,hd]at m;exact m
def y9 (X:Cx)(E:XK):Prop:=∀pins σ H s a C ob vs,Inv X pins σ H s->H a=Z8->(∃H1 s1,Inv X pins σ H1 s1/\s1.heap.get? a=Z8)->s.heap.get? a=Z9 ob->ob.cls=.ref C->ob.data=.fields vs->vs[1]?=Z9 .none->E (.ref C) ob.dict H->X.xe (.ref a) s
section
variable {X:Cx}{pos:Pos}
theorem zgz {M:Model}{A:d8}{E:Value->aq->Prop}{env:Env}{s:aq}{x:Sem Value}{Q:Flow->aq->Prop}{C:Addr}(hh:A.handled=Z8)
  (h:wpAny M A x (λv a=>∃e ob t bm,v=.ref e/\XC C a.heap bm/\a.heap.get? e=Z9 ob/\ob.cls=.ref C/\ob.data=.fields #[.ref t,.none,.none,.none,.bool Z6,.none]/\E (.ref e) a) E s):wpAny M A (raiseStmt env (Z9 x) Z8) Q E s:=by
 unfold raiseStmt;refine ac (gq h (λv a j=>?_) λ_ _ x=>x);obtain⟨e,ob,t,bm,rfl,⟨N,nm,q,bs,f,m,sub,n,k,o,p,r,u,w,y,z,c,hN,T⟩,i,hc,da,l⟩:=j;have b:(ZS C::bm).contains (.type "BaseException")=true:=by rw[p6,IH T,pi]
 obtain⟨B,g,d,D,os⟩:=a
 repeat (first|(with_reducible refine cw i ?_;first|rw[hc]|rw[da])|with_reducible refine cw c ?_|(with_reducible refine ju c ?_;rw[b])|wp_step)
 rw[da]
 repeat (first|(with_reducible refine cw i ?_;first|rw[hc]|rw[da])|with_reducible refine cw c ?_|(with_reducible refine ju c ?_;rw[b])|wp_step)
 exact lm hh l
theorem ze4 {C:Addr}(hr:Room (k+1) X.A)(hg:Gl X x)(hm:X.mg x=Z9 (.ref C))(Q:XX x)(xf:XF X.K C fl)(xi:XI X.K C f)
  (F:FnOk X.prog X.w X.K X.mg X.base (CXE X.prog X.w X.base) k f fd ps (sU X.K fl)) (n:Binds X.K fd ps []) (he:PE X e te) (m:isStar e=Z6) (rs:y9 X E):
  PS X (.Raise (Z9 (.Call (.Name x np) [e] [] cp)) Z8 pos) (λ_ L H=>te L H λy h=>∀dp,h dp=Z8->E (.ref C) (Z9 dp) (upd h dp (.xd [(fl,y)]))):=by
 intro j s L H D I hq;have R:(ow cp (fq [e] X.env)).any (·.1)=false:=by rw[eX m];rfl
 refine ac (n8 (zgz (C:=C) hr.hd (ac (gq (wpAny_Call_ofName (z3v I hg hm ?_ Q)) (λv s3 h3=>ac (n8 (ah h3))) λ_ _ z=>z))));have p:=(cV he hU m) cp j s L H (λM h=>match M with| [y]=>∀dp,h dp=Z8->E (.ref C) (Z9 dp) (upd h dp (.xd [(fl,y)]))|_=>False) I hq;rw[eX m]at p R ⊢;refine ac (dz (oh (aI p λus s1 zz=>ac (n8 ?_))));obtain⟨M,h,O,r,S⟩:=zz
 obtain⟨y,rfl⟩:∃y,M=[y]:=by
  rcases M with _|⟨y,_|⟨z,l⟩⟩
  .exact S.elim
  .exact⟨y,rfl⟩
  .exact S.elim
 cases r with
 |cons ry rn=>
  cases rn;rename_i u;obtain⟨hp,g,d,t,os⟩:=s1;obtain⟨bm,N,nm,qn,bs,hdct,sn,sub,ab,col,dd,k0,k1,k2,k3,k5,mN,o,oC,hN,hi,T,hf,hc⟩:=xi.at O.dS xf.ex;refine ac (wpAny_keeperOf_exc oC ?_);refine ac (zw0 PySem.F.excBase_ValueError T oC hN hi hf hc (λh' a hz made=>?_) (show 1<=bh by rw[dw];decide));obtain⟨tp,ga,_,_⟩:=made.there;generalize c:({cls:=.ref C,data:=.fields #[.ref tp,.none,.none,.none,.bool Z6,.none]}:Obj)=ob at ga;have U:=O.laid (t':=t) made.keeps hz (J8 ga);have q:=O.hok.fresh hz
  let Q2:VK:=λv H3=>v=.non/\∃dp,h dp=Z8/\dp≠a/\H3=upd (upd (upd h a (exO a ob)) dp (.xd [(fl,y)])) a (exO a {ob with dict:=Z9 dp})
  have B:sU X.K fl [.ref a,y] (upd h a (exO a ob)) Q2 (λ_ _ _=>False):=⟨a,C,ob,#[.ref tp,.none,.none,.none,.bool Z6,.none],y,rfl,aT,by rw[<-c],by rw[<-c],by rw[<-c],xf,λdp P G=>⟨rfl,dp,by rw[aB G]at P;exact P,G,rfl⟩⟩;have r2:Vals [V.ref a,y] [ZS a,u]:=.cons rfl (.cons ry .nil);refine vo (ky (F.run _ X.stack _ _ ⟨[ZS a,u],[]⟩ [ZS a,u] [V.ref a,y] Q2 (λ_ _ _=>False) (hr.make C [u] []) (U.wQ.make C [u] []) (n ⟨h',g,d,t,os⟩ [ZS a,u] U.dS (by rw[d6];exact(r2.length▸F.len _ _ _ _ B))) r2 B) λrr s' i=>?_);cases rr with
  |error e'=>obtain⟨_,_,_,_,_,_,z⟩:=i;exact z.elim
  |ok W=>
   cases W with
   |next=>exact i.elim
   |brk=>exact i.elim
   |cont=>exact i.elim
   |ret w=>
    obtain⟨v,H3,Y,rv,rfl,dp,P,G,rfl⟩:=U.after i;refine⟨rv,ac (dz (wpAny_point (ah ?_)))⟩;have J:=J7 Y aT;have I4:=Mi.Inv.iC Y aT True.intro
    have eH:Mi.iC (upd (upd (upd h a (exO a ob)) dp (.xd [(fl,y)])) a (exO a {ob with dict:=Z9 dp})) a=upd h dp (.xd [(fl,y)]):=by
     funext b
     by_cases n:b=a
     .subst n;rw[sS,aB (Ne.symm G),q]
     .rw[qB n,aB n];by_cases hd:b=dp
      .subst hd;rw[aT,aT]
      .rw[aB hd,aB hd,aB n]
    rw[eH]at I4;obtain⟨Ax,xc,_⟩:=XC.mk Y.dS xf.ex;refine⟨a,_,tp,Ax,rfl,xc,J,by rw[<-c],by rw[<-c],rs j L _ s' a C _ _ I4 ?_ ⟨h,_,O,made.new⟩ J (by rw[<-c]) (by rw[<-c]) rfl (S dp P)⟩;rw[aB (Ne.symm G)];exact q
theorem zqd {C:Addr}(m:X.fx=[(n,.ref a)])(o:X.env.scope.names.lookup n=Z9 .local)(hd:XX n)(e:z28 (.Name n p)=Z7)(r:Xh X a i)(x:i.cls=.ref C)(da:i.data=.fields ws)(j:i.dict=Z9 dp)(y:Xh X dp od)(hm:∀h:Heap,h.get? dp=Z9 od->h.Ns dp z)(A:z f=Z9 u)(l:RelV v u)(xf:XF X.K C f):
  PE X (.Attribute (.Name n p) f q) (λ_ H Q=>Q v H):=by
 intro b s B H Q I h;refine zk0 (rG e) (aI (IQ m o hd b s B H (λw k=>w=.ref a/\k=H) I ⟨rfl,rfl⟩) λw D E=>?_);obtain⟨G,k,c,F,rfl,rfl⟩:=E;obtain rfl:w=ZS a:=F;obtain⟨hh,g,d,t,os⟩:=D;exact zqo c.dS xf (r _ _ _ _ c) x da j (hm _ (y _ _ _ _ c)) A (W.handedOut_of (Nn l)) ⟨v,k,c.tok (t+1),l,h⟩
theorem zjr {C D:Addr}(I:Inv X c σ H1 s1)(M:Fly X.prog X.w X.base X.stack H1 s1 C a O s' (Z9 dp))(hy:O dp=Z9 (.xd [(fl,y)]))(hs:X.stack=X.env::X.outer)(hf:X.env.frame=Z9 X.env.locals)(hx:X.fx=[])(nd:X.N.Nodup)(hi:X.N[i]?=Z9 n)(hv:X.env.scope.names.lookup ("":Str)=Z8)(hl:X.env.scope.names.lookup n=Z9 .local)
  (hB:X.mg B=Z9 (.ref D)) (xC:fI X.K C=Z7) (xD:fI X.K D=Z7) (sb:Z0 X.K (.ref C) (.ref D)=Z9 Z7) (P:Gl X B) (Q:XX B)
  (R:∀od L u m ws,(∀h:Heap,h.get? dp=Z9 od->h.Ns dp L)->L fl=Z9 u->RelV y u->m.cls=.ref C->m.dict=Z9 dp->m.data=.fields ws->PSs (iQ (qA X ((dp,od)::X.pn) X.xe) i n a m) (b0::gQ) T) (q:T ⟨λS U=>Dn.nx (S.set i Z8) U,Dn.rt,λ_ _=>False,λ_ _=>False⟩ (σ.set i Z8) (iC O dp)):
  wpAny (model X.prog X.w) X.A (j4 (.ref a) X.env) (λ_ x=>wpAny (model X.prog X.w) X.A (ma (.ref a) Z8) (λ_ s3=>wpAny (model X.prog X.w) X.A (t8 (.ref a) X.env [.ExceptHandler (Z9 (.Name B np)) (Z9 n) (b0::gQ) t]) (SP X c Dn) X.xe s3) X.xe x) X.xe s':=by
 obtain⟨B0,V,E,yB,w0⟩:=M.hh;have k:=w0;rw[hs]at k;obtain⟨L,F,rel⟩:=E dp _ hy;obtain⟨od,es,ep,l,G,J9⟩:=id F;have rf:=rel fl;simp at rf;obtain⟨u,hu,ru⟩:=dD.some_of rf;have back:∀{p2:List (Addr×Obj)} {d:L2.St} {j:Hp} {x:aq},Inv (qA X ((dp,od)::X.pn) X.xe) c d j x->Inv X c d j x:=λ{p2 d j x} J=>⟨I.ok,J.os,J.bare,J.base,J.loc,J.cell,J.free,J.freeC,λp t=>J.pin p (by exact ay _ t),J.hok,J.len,J.fx⟩;refine zb6 (pins:=c) (X:=qA X ((dp,od)::X.pn) X.xe) (λh6 w6 up=>?_) k ?_ hs hf hx nd hi hv hl hB (λA=>yC (X:=qA X ((dp,od)::X.pn) X.xe) xC xD sb A) P Q (λf s h=>?_) (λm ws h1 h2 h3=>R od L u m ws (λh e=>(F.at (h':=h) λo z=>by rw[l]at z;cases z;exact e).ns) hu ru h1 h2 h3) q
 .have J:=Fly.land I M V E yB (hs▸w6) up;have g:Inv X c σ (iC O dp) {s' with heap:=h6}:=Mi.Inv.iC J hy True.intro;refine⟨TR g.ok,g.os,g.bare,g.base,g.loc,g.cell,g.free,g.freeC,λp t=>?_,g.hok,g.len,g.fx⟩;rcases au.mp t with rfl|t
  .have H:∀b∈(X.env::X.outer).filterMap (·.frame),dp≠b:=fun b hb z=>by
    have:=(k.2.2.1.mem hb).1;rw[<-z,l]at this;cases this
   refine⟨(w6.1 _ _ l),sS,H _ ?_,λz=>H dp ?_ rfl,λv z=>?_⟩
   .rw[dr,hf];exact bb
   .rw[dr,hf];exact ay _ z
   .have z:od.data=.cell v:=z;rw[G]at z;cases z
  .exact g.pin p t
 .have :=IP M;by_cases e:a=dp
  .rw[e];exact sS
  .rw[qB e];exact this
 .cases f with
  |next=>obtain⟨d,j,J,z⟩:=h;exact⟨d,j,back (p2:=c) J,z⟩
  |brk=>obtain⟨d,j,J,z⟩:=h;exact⟨d,j,back (p2:=c) J,z⟩
  |cont=>obtain⟨d,j,J,z⟩:=h;exact⟨d,j,back (p2:=c) J,z⟩
  |ret u=>obtain⟨v,d,j,J,r,z⟩:=h;exact⟨v,d,j,back (p2:=c) J,r,z⟩
end
inductive WS where
 |nil|seq (a b:WS)|asg (i:Nat) (e:W)|put (o k v:W)|exp (e:W)|app (o v:W)|ext (o v:W)|ret (e:W)|ifS (c:W) (a b:WS)|bC (t:Tg) (it:C) (b:WS)|nO (c:Str)|za (s:S)|A0 (o:W) (f:Str) (e:W)|zb (c fl:Str) (e:W)|iR (t:Tg) (it:W) (b:WS)|qC (b hs:WS) (i n:Nat)|hn (c:Str) (f:Option Str) (h rest:WS)|gW (i:Nat) (it:W) (b:WS)
 deriving Inhabited
def EV:W->Bool
 |.pur c=>!jV c
 |.lc _ _ _ _ _ _ _ _=>Z7
 |_=>Z6
theorem T1 (k:Cok f Κ Φ X r)(F:jU f i x=Z7)(hn:jV c=Z6)(a:chkE f c v=Z7):PS X (.Assign [.Name x px] v pos) (iH (tD X.K (aF Κ Φ c)) (mY i)):=by
 obtain⟨h,o,j⟩:=k.loc F;have nd:X.N.Nodup:=k.hN▸k.nd;cases u:z1j v with
 |false=>exact xJ nd h o ((all c).E f X r _ k a) u j
 |true=>
  cases v<;>first|(cases u;done)|skip
  .rename_i M O s p;cases g:(X.env.blockKind==.function&&X.env.kindOf x==Z9 .local&&px.line==p.line&& !(s.names.any λ(n,k)=>n==x&&(k==.local||k==.cell)))with
   |false=>exact z9e nd h o ((all c).E f X r _ k a) (by rw[uY,g]) j
   |true=>
    obtain⟨P,Q,R,S,it,b,l,rfl⟩:=IZ hn a;obtain⟨G,t,T,I,m,w,e,y,h0,z,A,B,C,hs,d⟩:=sC (all it) (all b) (all l) k a;cases e;have J:X.env.scope.names.lookup x=Z9 .local:=by simp at g;exact g.1.1.2
    exact PS.imp (z4s (k.calm d) nd h J j.2 y z A B C (by rw[uY,g]) hs) λD L H q=>(zdz (pos:=p) (k.calm d) y h0 z A B C hs).2 L H _ q
  .exact(Ja a).elim
  .exact(Jb a).elim
def rz:WS->Bool
 |.seq a b=>rz a||rz b
 |.nO _=>Z7
 |.zb _ _ _=>Z7
 |.ifS _ a b=>rz a||rz b
 |.bC _ _ _=>Z7
 |.iR _ _ _=>Z7
 |.gW _ _ _=>Z7
 |.za _=>Z7
 |_=>Z6
def sets:WS->List Nat
 |.seq a b=>sets a++sets b
 |.asg i _=>[i]
 |_=>[]
def qD (js:List Nat):Nat->L2.St->L2.St
 |_,[]=>[]
 |k,o::σ=>(if js.contains k then Z8 else o)::qD js (k+1) σ
def lX (js:List Nat):Nat->List Str->List Str
 |_,[]=>[]
 |k,x::N=>if js.contains k then lX js (k+1) N else x::lX js (k+1) N
theorem J':∀a k,(qD b k a).length=a.length
 | [],_=>rfl
 |_::a,k=>congrArg (· +1) (J' a (k+1))
theorem Ka:∀a k {j:Nat} {v:V},(qD b k a)[j]?=Z9 (Z9 v)->b.contains (k+j)=Z6/\a[j]?=Z9 (Z9 v)
 | [],_,j,v,e=>by cases e
 |o::a,k,0,v,e=>by
  have e:Z9 (if b.contains k then Z8 else o)=Z9 (Z9 v):=e;cases h:b.contains k with
  |true=>rw[h]at e;cases e
  |false=>rw[h]at e;exact⟨rfl,e⟩
 |o::a,k,j+1,v,e=>by have:=Ka a (k+1) e;rw[vy k 1 j]at this;exact this
theorem Kb:∀N k {j:Nat} {x:Str},N[j]?=Z9 x->a.contains (k+j)=Z6->x∈lX a k N
 | [],_,j,x,e,_=>by cases e
 |y::N,k,j,x,e,h=>by
  unfold lX;cases j with
  |zero=>cases e;rw[yb (by rw[Nat.add_zero]at h;rw[h];decide)];exact bb
  |succ j=>
   have:=Kb N (k+1) e (by rw[vy];exact h);split
   .exact this
   .exact ay _ this
def qF (X:Cx)(pn:List (Addr×Obj))(E:Value->aq->Prop)(f:List (Str×Value)):Cx:={X with pn:=pn,xe:=E,fx:=f}
section
variable {X:Cx}{pins dU:List (Addr×Obj)}{σ:L2.St}{H:Hp}{s:aq}{E:Value->aq->Prop}{f:List (Str×Value)}
theorem T2 (I:Inv X pins σ H s)(E:Value->aq->Prop)(hl:∀x u,(x,u)∈f->Vis X.env.scope x)(hf:∀x u,(x,u)∈f->∃m,s.heap.Ns X.env.locals m/\Look X.env s.heap m x u):Inv (qF X (X.pn++pins) E f) [] σ H s:=⟨⟨I.ok.mod,I.ok.kind,I.ok.glob,I.ok.blt,I.ok.above,I.ok.inj,I.ok.has,I.ok.mX,I.ok.hd,I.ok.frames,I.ok.pJ,I.ok.gA,I.ok.bs,I.ok.iG,I.ok.fO,I.ok.fP,I.ok.bV,I.ok.kU,hl⟩,I.os,I.bare,I.base,I.loc,I.cell,I.free,I.freeC,λp hp=>I.pin p (by simpa[Mi.qF]using hp),I.hok,I.len,hf⟩
theorem Kc (ok:X.Ok)(hx:X.fx=[])(I:Inv (qF X (X.pn++pins) E f) dU σ H s):Inv X pins σ H s:=⟨ok,I.os,I.bare,I.base,I.loc,I.cell,I.free,I.freeC,λp hp=>I.pin p (bz _ hp),I.hok,I.len,λx u z=>by rw[hx]at z;cases z⟩
theorem T3 (ok:X.Ok)(hx:X.fx=[])(I:Inv (qF X (X.pn++pins) E f) dU σ H s)(len:a.length=X.N.length)(h0:∀(j:Nat) x v,X.N[j]?=Z9 x->a[j]?=Z9 (Z9 v)->∃u,RelV v u/\(x,u)∈f):Inv X pins a H s:=by obtain⟨m,hn,_⟩:=I.loc;refine⟨ok,I.os,I.bare,I.base,⟨m,hn,λj x v c d g=>?_⟩,I.cell,I.free,I.freeC,λp e=>I.pin p (bz _ e),I.hok,len,λx u z=>by rw[hx]at z;cases z⟩;obtain⟨u,r,hm⟩:=h0 j x v c d;obtain⟨h,b,q⟩:=I.fx x u hm;exact⟨u,r,q.imp (λq=>⟨q.1,(GK hn b x).trans q.2⟩) id⟩
theorem T4 (a:Look X.env h m x u)(b:Look X.env h m x j):u=j:=by
 rcases a with⟨k,a⟩|⟨k,c,e,o,ho,hd⟩
 .rcases b with⟨_,b⟩|⟨d,_⟩
  .rw[a]at b;cases b;rfl
  .rcases d with d|d<;>(rw[k]at d;cases d)
 .rcases b with⟨d,_⟩|⟨_,l,i,n,f,g⟩
  .rcases k with k|k<;>(rw[k]at d;cases d)
  .rw[e]at i;cases i;rw[ho]at f;cases f;rw[hd]at g;cases g;rfl
theorem T5 (I:Inv X pins σ H s)(hl:(lX b 0 X.N).all (λx=>X.env.scope.names.lookup x==Z9 .local||X.env.scope.names.lookup x==Z9 .cell)=Z7):∃f:List (Str×Value),(∀x u,(x,u)∈f->(lX b 0 X.N).contains x=Z7)/\(∀x u,(x,u)∈f->Vis X.env.scope x)/\(∀x u,(x,u)∈f->∃m,s.heap.Ns X.env.locals m/\Look X.env s.heap m x u)/\∀(j:Nat) x v,X.N[j]?=Z9 x->(qD b 0 σ)[j]?=Z9 (Z9 v)->∃u,RelV v u/\(x,u)∈f:=by
 obtain⟨m,hn,i⟩:=I.loc
 have:∀N:List Str,∃f:List (Str×Value),(∀x u,(x,u)∈f->x∈N/\Look X.env s.heap m x u)/\∀x u,x∈N->Look X.env s.heap m x u->(x,u)∈f:=λN=>by
  induction N with
  |nil=>exact⟨[],nofun,λ_ _ h=>by cases h⟩
  |cons y N k=>
   obtain⟨f,a,c⟩:=k;by_cases d:∃u,Look X.env s.heap m y u
   .obtain⟨u,hu⟩:=d;refine⟨(y,u)::f,λx w h=>?_,λx w h q=>?_⟩
    .rcases au.mp h with e|h
     .cases e;simp_all
     .exact⟨ay _ (a x w h).1,(a x w h).2⟩
    .rcases au.mp h with rfl|h
     .rw[T4 q hu];simp_all
     .exact ay _ (c x w h q)
   .refine⟨f,λx w h=>⟨ay _ (a x w h).1,(a x w h).2⟩,λx w h q=>?_⟩;rcases au.mp h with rfl|h
    .exact absurd ⟨w,q⟩ d
    .exact c x w h q
 obtain⟨f,a,c⟩:=this (lX b 0 X.N)
 have aH:∀{x},x∈lX b 0 X.N->Vis X.env.scope x:=λ{x} h=>by
  rcases gz.mp (cx.mp hl x h)with z|z
  .exact .inl (yh z)
  .exact .inr (.inl (yh z))
 refine⟨f,λx u h=>cn.mpr (a x u h).1,λx u h=>aH (a x u h).1,λx u h=>⟨m,hn,(a x u h).2⟩,λj x v g l=>?_⟩;obtain⟨n,o⟩:=Ka σ 0 l;have hm:=Kb X.N 0 g n;obtain⟨u,r,q⟩:=i j x v g o (aH hm);exact⟨u,r,c x u hm q⟩
end
def A7 (Γ:Gw)(b:WS):Gw:={Γ with g:={Γ.g with kp:=lX (sets b) 0 Γ.g.N}}
theorem T6 (k:Cok a.g Κ Φ X r)(d:a.g.xc=Z8)(pn:List (Addr×Obj))(E:Value->aq->Prop)(e:∀x u,(x,u)∈f->(lX (sets b) 0 a.g.N).contains x=Z7):Cok (A7 a b).g Κ Φ (qF X pn E f) r:=⟨k.hN,k.hs,k.nd,k.fn,k.kind,k.free,k.fns,k.cst,k.mJ,k.room,k.calm,k.hu,k.jY,λ_=>e,λn c z=>(by have z:a.g.xc=Z9 (n,c):=z;rw[d]at z;cases z),⟨k.xk.sub,k.xk.rs,k.xk.fG⟩⟩
mutual
def wS:Wc->WS->TS
 |_,.nil=>GR
 |Z,.seq a b=>wH (wS Z a) (wS Z b)
 |Z,.asg i e=>iH (wE Z e) (mY i)
 |Z,.put o k v=>yn (wE Z o) (wE Z k) (wE Z v)
 |Z,.exp e=>qU (wE Z e)
 |Z,.app o v=>qU (wY Z.K "list" zY (wE Z o) (pK (wE Z v) iK))
 |Z,.ext o v=>qU (wY Z.K "list" zZ (wE Z o) (pK (wE Z v) iK))
 |Z,.ret e=>wI (wE Z e)
 |Z,.ifS c a b=>wJ (wT Z c) (wS Z a) (wS Z b)
 |Z,.bC t it b=>iI (tDW Z.K (evW Z.Κ Z.Φ it)) (tDG Z.K t) (wS Z b)
 |Z,.nO c=>λ_ _ H=>∀C,Z.mg c=Z9 (.ref C)->Z.E (.ref C) Z8 H
 |Z,.za s=>tDS Z.K (aW Z.Κ Z.Φ s)
 |Z,.A0 o f e=>EU Z.K (wE Z o) (wE Z e) f
 |Z,.zb c fl e=>λ_ σ H=>∀C,Z.mg c=Z9 (.ref C)->wE Z e σ H λy H1=>∀dp,H1 dp=Z8->Z.E (.ref C) (Z9 dp) (upd H1 dp (.xd [(fl,y)]))
 |Z,.iR t it b=>iI (wL Z.K (wE Z it)) (tDG Z.K t) (wS Z b)
 |Z,.gW i it b=>iI (wL Z.K (wE Z it)) (mY i) (wS Z b)
 |Z,.qC b hs i _=>λD σ H=>wS {Z with E:=wX Z hs D i (qD (sets b) 0 σ)} b ⟨D.nx,D.rt,λ_ _=>False,λ_ _=>False⟩ σ H
 |_,.hn _ _ _ _=>λ_ _ _=>False
def wX:Wc->WS->Ends->Nat->L2.St->XK
 |Z,.hn c f h rest,D,i,n=>fun v dd H'=>(∃C,Z.mg c=Z9 (.ref C)/\v=.ref C/\match f with
   |none=>wS {Z with E:=λ_ _ _=>False,xf:=Z8} h ⟨λσ' dM=>D.nx (σ'.set i Z8) dM,D.rt,λ_ _=>False,λ_ _=>False⟩ (n.set i Z8) H'
   |some fl=>∃dp y,dd=Z9 dp/\H' dp=Z9 (.xd [(fl,y)])/\wS {Z with E:=λ_ _ _=>False,xf:=Z9 y} h ⟨λσ' dM=>D.nx (σ'.set i Z8) dM,D.rt,λ_ _=>False,λ_ _=>False⟩ (n.set i Z8) (iC H' dp))
  \/wX Z rest D i n v dd H'
 |_,_,_,_,_=>λ_ _ _=>False
end
def EW:Stmt->Option (List Stmt×Str×Str×List Stmt)
 |.Try b [h] [] [] _=>(CS h).map λu=>(b,u)
 |_=>Z8
theorem EX (e:EW s=Z9 v):∃a b pos,s=.Try v.1 [.ExceptHandler (Z9 (.Name v.2.1 a)) (Z9 v.2.2.1) v.2.2.2 b] [] [] pos:=by
 unfold EW at e;split at e
 .obtain⟨x,c,rfl⟩:=bc.mp e;obtain⟨a,b,rfl⟩:=D6 c;exact⟨_,_,_,rfl⟩
 .cases e
def EY (Γ:Gw)(i:Nat)(nm c:Str)(f:Option Str):Gw:={Γ with g:={Γ.g with N:=Γ.g.N.set i "",cm:=Z6,xc:=Z9 (nm,c),fns:=[]},xf:=f}
mutual
def A8:Gw->WS->Stmt->Bool
 |Γ,.asg i e,s=>(uK s).any λu=>(aX u.1).any λx=>oG Γ.g (.nm i) x&&(!z1j u.2||EV e)&&bJ Γ e u.2
 |Γ,.put o k v,s=>(uK s).any λu=>(aX u.1).any λx=>(iO x).any λw=>!z1j u.2&&bJ Γ o w.1&&bJ Γ k w.2&&bJ Γ v u.2
 |Γ,.exp e,s=>(uL s).any λv=>!z1j v&&bJ Γ e v
 |Γ,.app o e,s=>(uL s).any λc=>(rR c).any λv=>((v.2.1==("append":Str))&&z28 v.1&&v.2.2.2)&&bJ Γ o v.1&&(aX v.2.2.1).any λy=>!isStar y&&bJ Γ e y
 |Γ,.ext o e,s=>(uL s).any λc=>(rR c).any λv=>((v.2.1==("extend":Str))&&z28 v.1&&v.2.2.2)&&bJ Γ o v.1&&(aX v.2.2.1).any λy=>!isStar y&&bJ Γ e y
 |Γ,.ret e,s=>(CO s).any λo=>o.any λv=>bJ Γ e v
 |Γ,.ifS c a b,s=>(CP s).any λv=>vF Γ c v.1&&wkL Γ a v.2.1&&wkL Γ b v.2.2
 |Γ,.bC t it b,s=>Γ.g.cm&&(xX s).any λv=>(oG Γ.g t v.1&&Ab it v.1&&pM v.2.1)&&iP Γ.g it v.2.1&&wkL Γ b v.2.2.1&&v.2.2.2.isEmpty
 |Γ,.nO c,s=>(xY s).any λv=>(v.1==c)&&lG Γ.g c&&Γ.g.rs.contains c&&Γ.g.cm&&(aX v.2).any CQ
 |Γ,.za x,s=>oI Γ.g x s
 |Γ,.A0 o f e,s=>(uK s).any λu=>(aX u.1).any λx=>(z8 x).any λv=>(v.2.1==f)&& !z1j u.2&&bJ Γ o v.1&&bJ Γ e u.2
 |Γ,.zb c fl e,s=>(xY s).any λv=>(v.1==c)&&lG Γ.g c&&Γ.fld.contains (c,fl)&&Γ.g.cm&&(aX v.2).any λy=>!isStar y&&bJ Γ e y
 |Γ,.iR t it b,s=>Γ.g.cm&&(xX s).any λv=>(oG Γ.g t v.1&&pM v.2.1)&&bJ Γ it v.2.1&&wkL Γ b v.2.2.1&&v.2.2.2.isEmpty
 |Γ,.gW i it b,s=>Γ.g.cm&&(xX s).any λv=>(oG Γ.g (.nm i) v.1&&pM v.2.1)&&bJ Γ it v.2.1&&wkL Γ b v.2.2.1&&v.2.2.2.isEmpty
 |Γ,.qC b hs i n,s=>decide (Γ.g.N.length=n)&&(EW s).any λv=>(Γ.g.cm&&(xc0 Γ.g&& !Γ.g.blk)&&(Γ.g.N[i]?==Z9 v.2.2.1)&&(Γ.g.sc.names.lookup v.2.2.1==Z9 .local)&&decide (Γ.g.N.set i "").Nodup)&&((Γ.g.sc.names.lookup ("":Str)).isNone&&lG Γ.g v.2.1&& !rz b&&((lX (sets b) 0 Γ.g.N).all (λx=>Γ.g.sc.names.lookup x==Z9 .local||Γ.g.sc.names.lookup x==Z9 .cell)&&wkL (A7 Γ b) b v.1)&&Γ.xf.isNone)&&(!v.2.2.2.isEmpty&& !(v.2.2.1==("__debug__":Str))&&wkH Γ hs i v.2.2.1 v.2.1 v.2.2.2)
 |_,_,_=>Z6
def wkH:Gw->WS->Nat->Str->Str->List Stmt->Bool
 |_,.nil,_,_,_,_=>Z7
 |Γ,.hn c f h rest,i,nm,B,su=>Γ.g.fG.contains (c,B)&&(match f with|none=>Z7|some fl=>Γ.fld.contains (c,fl))&&wkL (EY Γ i nm c f) h su&&wkH Γ rest i nm B su
 |_,_,_,_,_,_=>Z6
def wkL:Gw->WS->List Stmt->Bool
 |_,.nil,l=>l.isEmpty
 |Γ,.seq a b,l=>match l with|s::l=>A8 Γ a s&&wkL Γ b l|_=>Z6
 |_,_,_=>Z6
end
def Wfk (Γ:Gw)(X:Cx)(r:Nat):Prop:=∀c fl,Γ.fld.contains (c,fl)=Z7->∃C f fd ps k,X.mg c=Z9 (.ref C)/\XF X.K C fl/\XI X.K C f/\k+1<=r/\FnOk X.prog X.w X.K X.mg X.base (CXE X.prog X.w X.base) k f fd ps (sU X.K fl)/\Binds X.K fd ps []
structure Wz (s:WS):Prop where
 R:∀(Γ:Gw) (Z:Wc) (X:Cx) (r:Nat) (st:Stmt),Wok Γ Z (CXE X.prog X.w X.base) X r->Wfk Γ X r->(rz s=Z7->ji (model X.prog X.w) X.A X.env X.xe)->(rz s=Z7->y9 X Z.E)->A8 Γ s st=Z7->PS X st (wS Z s)
 L:∀(Γ:Gw) (Z:Wc) (X:Cx) (r:Nat) (st:List Stmt),Wok Γ Z (CXE X.prog X.w X.base) X r->Wfk Γ X r->(rz s=Z7->ji (model X.prog X.w) X.A X.env X.xe)->(rz s=Z7->y9 X Z.E)->wkL Γ s st=Z7->PSs X st (wS Z s)
 H:∀(Γ:Gw) (Z:Wc) (X:Cx) (r i:Nat) (nm B:Str) (b0:Stmt) (su:List Stmt) (np hp:Pos) (pins:List (Addr×Obj)) (Dn:Ends),Wok Γ Z (CXE X.prog X.w X.base) X r->Wfk Γ X r->xc0 Γ.g=Z7->X.stack=X.env::X.outer->X.env.frame=Z9 X.env.locals->X.N[i]?=Z9 nm->X.env.scope.names.lookup ("":Str)=Z8->X.env.scope.names.lookup nm=Z9 .local->XX nm->(Γ.g.N.set i "").Nodup->Gl X B->XX B->wkH Γ s i nm B (b0::su)=Z7->∀σ H1 s1 C a H' s' dd,Inv X pins σ H1 s1->Fly X.prog X.w X.base X.stack H1 s1 C a H' s' dd->wX Z s Dn i σ (.ref C) dd H'->wpAny (model X.prog X.w) X.A (j4 (.ref a) X.env) (λ_ s2=>wpAny (model X.prog X.w) X.A (ma (.ref a) Z8) (λ_ s3=>wpAny (model X.prog X.w) X.A (t8 (.ref a) X.env [.ExceptHandler (Z9 (.Name B np)) (Z9 nm) (b0::su) hp]) (SP X pins Dn) X.xe s3) X.xe s2) X.xe s'
theorem Wz.x (h:∀Γ Z X r st,Wok Γ Z (CXE X.prog X.w X.base) X r->Wfk Γ X r->(rz s=Z7->ji (model X.prog X.w) X.A X.env X.xe)->(rz s=Z7->y9 X Z.E)->A8 Γ s st=Z7->PS X st (wS Z s))(d:∀Γ st,wkL Γ s st=Z6)(e:∀Z D i n v dd b,¬wX Z s D i n v dd b):Wz s:=⟨h,λΓ Z X r st k f g hr z=>ff (d Γ st) z,λΓ Z X r i nm B m o p g c q k f a1 a2 a3 a4 t u y F G j l H J K C a b L dd I fl z=>(e _ _ _ _ _ _ _ z).elim⟩
section
variable {X:Cx}{pos:Pos}
theorem zeo {C:Addr}(hh:X.A.handled=Z8)(G:Gl X x)(hm:X.mg x=Z9 (.ref C))(i:XX x)(J:exV X.K C=Z7)
  (rs:y9 X E):PS X (.Raise (Z9 (.Call (.Name x np) [.Constant (.str z) kk kp] [] L)) Z8 pos) (λ_ _ H=>E (.ref C) Z8 H):=by
 intro b s l H D I M;obtain⟨W,N,nm,q,bs,c,m,sub,n,g,p,t,u,k2,v,w,mN,O,hN,k,T⟩:=DJ.mk I.mod.zQ J;refine wpAny_Raise_call_subT (nm:=nm) (q:=q) (N:=N) (bs:=bs) (hdct:=c) (sn:=m) (sub:=sub) (ab:=n) (col:=g) (dd:=p) (k0:=t) (k1:=u) (k2:=k2) (k3:=v) (k5:=w) PySem.F.excBase_ValueError (T.hasType (X:="BaseException") rfl) hh rfl k (z3v I G hm ⟨rfl,?_⟩ i);refine oh (aI ((zU (X:=X) (GL (x:=z) (j:=kk) (pos:=kp)) hU) L b s l H (λy d=>y.length=1/\d=H) I ⟨rfl,rfl⟩) λP B Q=>?_);obtain⟨y,d,f,r,R,rfl⟩:=Q;have S:P.length=1:=r.length▸R;refine⟨rfl,by rw[S];decide,f.bk _ _ O,hN.keeps f.bk,T.keeps f.bk,λU a h=>?_⟩;obtain⟨tp,ga,_,_⟩:=h.there
 have V:d a=none:=by
  cases e:d a with
  |none=>rfl
  |some o=>obtain⟨ob,q⟩:=IL (f.hok a o e);rw[h.new]at q;cases q
 exact rs b l d {B with heap:=U} a C _ _ (f.kept h.keeps) V ⟨d,B,f,h.new⟩ ga rfl rfl rfl M
end
theorem oX (h:a=Z7):(a||b)=true:=by rw[h];rfl
theorem oY (h:b=Z7):(a||b)=true:=by rw[h,pi]
theorem zkh {C D:Addr}(I:Inv X b r s t)(e:Fly X.prog X.w X.base X.stack s t C a u v R)(hs:X.stack=X.env::X.outer)(hf:X.env.frame=Z9 X.env.locals)(hx:X.fx=[])(nd:X.N.Nodup)(x:X.N[i]?=Z9 n)(y:X.env.scope.names.lookup ("":Str)=Z8)(hl:X.env.scope.names.lookup n=Z9 .local)
  (E:X.mg B=Z9 (.ref D)) (F:fI X.K C=Z7) (G:fI X.K D=Z7) (H:Z0 X.K (.ref C) (.ref D)=Z9 Z7) (f:Gl X B) (g:XX B)
  (h:∀d,d.cls=.ref C->PSs (iQ X i n a d) (J::gQ) T) (q:T ⟨λj k=>p.nx (j.set i Z8) k,p.rt,λ_ _=>False,λ_ _=>False⟩ (r.set i Z8) u):
  wpAny (model X.prog X.w) X.A (j4 (.ref a) X.env) (λ_ L=>wpAny (model X.prog X.w) X.A (ma (.ref a) Z8) (λ_ M=>wpAny (model X.prog X.w) X.A (t8 (.ref a) X.env [.ExceptHandler (Z9 (.Name B np)) (Z9 n) (J::gQ) hp]) (SP X b p) X.xe M) X.xe L) X.xe v:=by
 obtain⟨S,l,m,o,O⟩:=e.hh;have c:=O;rw[hs]at c;refine zb6 (λU P up=>?_) c (IP e) hs hf hx nd x y hl E (yC F G H) f g (λ_ _ z=>z) (λd ws Q h2 h3=>h d Q) q;exact Fly.land I e l m o (hs▸P) up
theorem w_hn {rest:WS}(ih:Wz h)(ir:Wz rest):∀j Z X r i nm B t v R S b x,Wok j Z (CXE X.prog X.w X.base) X r->Wfk j X r->xc0 j.g=Z7->X.stack=X.env::X.outer->X.env.frame=Z9 X.env.locals->X.N[i]?=Z9 nm->X.env.scope.names.lookup ("":Str)=Z8->X.env.scope.names.lookup nm=Z9 .local->XX nm->(j.g.N.set i "").Nodup->Gl X B->XX B->wkH j (.hn c f h rest) i nm B (t::v)=Z7->
  ∀E F G C a K M O,Inv X b E F G->Fly X.prog X.w X.base X.stack F G C a K M O->wX Z (.hn c f h rest) x i E (.ref C) O K->wpAny (model X.prog X.w) X.A (j4 (.ref a) X.env) (λ_ s2=>wpAny (model X.prog X.w) X.A (ma (.ref a) Z8) (λ_ s3=>wpAny (model X.prog X.w) X.A (t8 (.ref a) X.env [.ExceptHandler (Z9 (.Name B R)) (Z9 nm) (t::v) S]) (SP X b x) X.xe s3) X.xe s2) X.xe M:=by
 intro j Z X r i nm B t v R S b x k P d hs hf T U hl n fG l m V E F G C a K M O I W z;obtain⟨c1,c2,c3,c4⟩:=bE V;rcases z with⟨C0,m0,e0,z⟩|z
 .cases e0;obtain⟨C',D,Q,m2,x1,x2,sb⟩:=k.ck.xk.fG c B c1;rw[k.mm,Q]at m0;cases m0;have o:X.N.Nodup:=k.ck.hN▸k.ck.nd;have hx:=k.ck.IT d;have d:=IU d;cases f with
  |none=>refine zkh I W hs hf hx o T U hl m2 x1 x2 sb l m (λs hc=>?_) z;exact ih.L (EY j i nm c Z8) _ (iQ X i nm a s) r _ ⟨⟨k.kk,k.mm,k.fn,k.me,k.cl,k.gi,k.hf,k.md,k.mq⟩,k.ck.iQ fG hc Q,nofun,(λ_ _ _ _ _ _ _ z=>by obtain⟨_,_,_,_,_,_,z⟩:=z;exact z),nofun,AZ⟩ P (λ_=>PassesOwn.never) (λ_ _ _ _ _ _ _ _ _ _ _ _ _ _ _ _ z=>z.elim) c3
  |some fl=>obtain⟨dp,y,rfl,hy,z⟩:=z;obtain⟨C2,f2,Ke,XN,k2,n1,xf,_⟩:=P c fl c2;rw[Q]at n1;cases n1;refine zjr I W hy hs hf hx o T U hl m2 x1 x2 sb l m (λod mA u s ws q1 q2 q3 q4 q5 q6=>?_) z;refine ih.L (EY j i nm c (Z9 fl)) _ (iQ (qA X ((dp,od)::X.pn) X.xe) i nm a s) r _ ⟨⟨k.kk,k.mm,k.fn,k.me,k.cl,k.gi,k.hf,k.md,k.mq⟩,(TU k.ck d ((dp,od)::X.pn) X.xe).iQ fG q4 Q,nofun,(λ_ _ _ _ _ _ _ z=>by obtain⟨_,_,_,_,_,_,z⟩:=z;exact z),(λf z=>?_),AZ⟩ P (λ_=>PassesOwn.never) (λ_ _ _ _ _ _ _ _ _ _ _ _ _ _ _ _ z=>z.elim) c3;cases z;refine⟨y,rfl,λn' c' e p q Y=>?_⟩;cases e;exact zqd (X:=iQ (qA X ((dp,od)::X.pn) X.xe) i nm a s) rfl hl n Y (λ_ _ _ _ J=>(J.pin (a,s) (bz _ bb)).1) q4 q6 q5 (λ_ _ _ _ J=>(J.pin (dp,od) (bz _ (ay _ bb))).1) q1 q2 q3 xf
 .exact ir.H j Z X r i nm B t v R S b x k P d hs hf T U hl n fG l m c4 E F G C a K M O I W z
theorem T7 {st:Stmt}(ib:Wz b)(ih:Wz hs)(k:Wok Γ Z (CXE X.prog X.w X.base) X r)(kx:Wfk Γ X r)(h:A8 Γ (.qC b hs i n) st=Z7):PS X st (wS Z (.qC b hs i n)):=by
 obtain⟨hn,h⟩:=aE h;obtain⟨⟨bd,B,nm,su⟩,hv,h9⟩:=aG h;obtain⟨np,ym,pos,rfl⟩:=EX hv;obtain⟨h1,h2,h3⟩:=aP h9;obtain⟨a1,a2,a3,a4,a5⟩:=dG h1;obtain⟨b1,b2,b3,b4,b5⟩:=dG h2;obtain⟨c1,c2,c3⟩:=aP h3;obtain⟨a6,a7⟩:=aE a2;obtain⟨b0,su,rfl⟩:=uU c1;obtain⟨g3,g4⟩:=k.ck.gl b2;obtain⟨s1,s2⟩:=k.ck.jY (cE a7);have hx:=k.ck.IT a6;have Kg:=cE b3;intro pins s σ H Dn I hq;refine wpAny_Try_except ?_;generalize hE:(λe qR=>wpAny (model X.prog X.w) X.A (j4 e X.env) (λ_ qS=>wpAny (model X.prog X.w) X.A (ma e Z8) (λ_ EZ=>wpAny (model X.prog X.w) X.A (t8 e X.env [.ExceptHandler (Z9 (.Name B np)) (Z9 nm) (b0::su) ym]) (SP X pins Dn) X.xe EZ) X.xe qS) X.xe qR)=E;obtain⟨b4,b6⟩:=aE b4;obtain⟨f,f1,f2,f3,f4⟩:=T5 I (by rw[k.ck.hN,k.ck.hs];exact b4);have px:z6d (CXE X.prog X.w X.base) (qF X (X.pn++pins) E f) (wX Z hs Dn i (qD (sets b) 0 σ)):=λdU σ' H1 Dd e s' I1 zz=>by obtain⟨a,C',dd,H',rfl,fl,q⟩:=zz;rw[<-hE];have I2:=T3 I.ok hx I1 (by rw[J'];exact I.len) f4;exact ih.H Γ Z X r i nm B b0 su np ym pins Dn k kx a6 s1 s2 (k.ck.hN▸yh a3) (k.ck.hs▸gk.mp b1) (k.ck.hs▸yh a4) (cE c2) (ye a5) g3 g4 c3 _ H1 Dd C' a H' s' dd I2 fl q
 have wk:Wok (A7 Γ b) {Z with E:=wX Z hs Dn i (qD (sets b) 0 σ)} (CXE X.prog X.w X.base) (qF X (X.pn++pins) E f) r:=⟨⟨k.kk,k.mm,k.fn,k.me,k.cl,k.gi,k.hf,k.md,k.mq⟩,T6 k.ck (IU a6) _ E (k.ck.hN▸f1),k.room,px,(λf z=>by have z:Γ.xf=Z9 f:=z;rw[gk.mp b5]at z;cases z),AZ⟩;refine aI ((ib.L (A7 Γ b) _ (qF X (X.pn++pins) E f) r bd wk kx (λz=>by rw[Kg]at z;cases z) (λz=>by rw[Kg]at z;cases z) b6) [] s σ H ⟨Dn.nx,Dn.rt,λ_ _=>False,λ_ _=>False⟩ (T2 I E f2 f3) hq) λAz s2 h2=>?_;cases Az with
 |next=>obtain⟨σ',H',I2,z⟩:=h2;exact sy ⟨σ',H',Kc I.ok hx I2,z⟩
 |brk=>obtain⟨_,_,_,z⟩:=h2;exact z.elim
 |cont=>obtain⟨_,_,_,z⟩:=h2;exact z.elim
 |ret u=>obtain⟨v,σ',H',I2,rv,z⟩:=h2;exact⟨v,σ',H',Kc I.ok hx I2,rv,z⟩
theorem T8 (s:WS):Wz s:=by
 induction s with
 |nil=>exact⟨λ_ _ _ _ _ _ _ _ _ h=>ff rfl h,λΓ Z X r st k kx hp hr h=>by cases fJ h;exact GS,λΓ Z X r i nm B b0 su np hp pins Dn k kx a1 a2 a3 a4 a5 a6 a7 a8 a9 T9 T' σ H1 s1 C a H' s' dd I fl z=>z.elim⟩
 |seq a b ia ib=>exact⟨λ_ _ _ _ _ _ _ _ _ h=>ff rfl h,λΓ Z X r st k kx hp hr h=>by
  cases st with
  |nil=>cases h
  |cons s st=>obtain⟨h1,h2⟩:=aE h;exact GU (ia.R Γ Z X r _ k kx (λz=>hp (oX z)) (λz=>hr (oX z)) h1) (ib.L Γ Z X r _ k kx (λz=>hp (oY z)) (λz=>hr (oY z)) h2),λΓ Z X r i nm B b0 su np hp pins Dn k kx a1 a2 a3 a4 a5 a6 a7 a8 a9 T9 T' σ H1 s1 C a H' s' dd I fl z=>z.elim⟩
 |asg i e=>exact Wz.x (λΓ Z X r st k kx hp hr h=>by
  obtain⟨⟨ts,v⟩,hv,h9⟩:=aG h;obtain⟨p,rfl⟩:=lQ hv;obtain⟨x,hx,h8⟩:=aG h9;cases eK hx;obtain⟨h1,h2,h3⟩:=aP h8;obtain⟨y,q,rfl,h5⟩:=gT h1;obtain⟨l1,l2,l3⟩:=k.ck.loc h5;cases hc:z1j v with
  |false=>exact xJ (by rw[k.ck.hN];exact k.ck.nd) l1 l2 ((bY e).E Γ Z _ X r _ k h3) hc l3
  |true=>
   have h2:=h2;rw[hc]at h2;cases e<;>first|(cases h2;done)|skip
   .rename_i c Ua;have hn:jV c=false:=cE h2;show PS X _ (iH (tD Z.K (aF Z.Κ Z.Φ c)) (mY i));rw[k.kk];exact T1 k.ck h5 hn h3
   .exact(y7 (bY _) (bY _) (bY _) Γ Z _ X r _ k h3).2 (by rw[k.ck.hN];exact k.ck.nd) l1 l2 l3) (λ_ _=>rfl) λ_ _ _ _ _ _ _ z=>z
 |put o y v=>exact Wz.x (λΓ Z X r st k kx hp hr h=>by obtain⟨⟨ts,v⟩,hv,h9⟩:=aG h;obtain⟨p,rfl⟩:=lQ hv;obtain⟨x,hx,h8⟩:=aG h9;cases eK hx;obtain⟨w,ho,h7⟩:=aG h8;obtain⟨_,rfl⟩:=uW ho;obtain⟨h1,h2,h3,h4⟩:=bE h7;exact HZ (wa (Nat.add_le_add_left (by decide) _) k.ck.hu) ((bY o).E Γ Z _ X r _ k h2) ((bY y).E Γ Z _ X r _ k h3) ((bY _).E Γ Z _ X r _ k h4) (rH (cE h1) _ _ _)) (λ_ _=>rfl) λ_ _ _ _ _ _ _ z=>z
 |exp e=>exact Wz.x (λΓ Z X r st k kx hp hr h=>by obtain⟨v,hv,h9⟩:=aG h;obtain⟨p,rfl⟩:=lR hv;obtain⟨h1,h2⟩:=aE h9;exact lC ((bY e).E Γ Z _ X r _ k h2) (cE h1)) (λ_ _=>rfl) λ_ _ _ _ _ _ _ z=>z
 |app o e=>exact Wz.x (λΓ Z X r st k kx hp hr h=>by obtain⟨c,hv,h9⟩:=aG h;obtain⟨p,rfl⟩:=lR hv;obtain⟨⟨x,n,es,b⟩,hm,h8⟩:=aG h9;obtain⟨ap,cp,rfl,hb⟩:=lP hm;obtain⟨h0,h6,h7⟩:=aP h8;obtain⟨h1,h2,h3⟩:=aP h0;obtain⟨y,hy,h4⟩:=aG h7;cases eK hy;obtain⟨h4,h5⟩:=aE h4;have h1:=eqB h1;subst h1;show PS X _ (qU (wY Z.K "list" zY _ _));rw[k.kk];exact lC (zgu PySem.F.plainAttrs_list PySem.F.slot_list_append PySem.F.type_list_append Cf ((bY o).E Γ Z _ X r _ k h6) (cV ((bY e).E Γ Z _ X r _ k h5) hU (cE h4)) (rG h2) (z93 (by rw[eg,h4];rfl) (show 1<20 by decide)) (hb.symm.trans h3) (eX (cE h4)) (nK rfl)) rfl) (λ_ _=>rfl) λ_ _ _ _ _ _ _ z=>z
 |ext o e=>exact Wz.x (λΓ Z X r st k kx hp hr h=>by obtain⟨c,hv,h9⟩:=aG h;obtain⟨p,rfl⟩:=lR hv;obtain⟨⟨x,n,es,b⟩,hm,h8⟩:=aG h9;obtain⟨ap,cp,rfl,hb⟩:=lP hm;obtain⟨h0,h6,h7⟩:=aP h8;obtain⟨h1,h2,h3⟩:=aP h0;obtain⟨y,hy,h4⟩:=aG h7;cases eK hy;obtain⟨h4,h5⟩:=aE h4;have h1:=eqB h1;subst h1;show PS X _ (qU (wY Z.K "list" zZ _ _));rw[k.kk];exact lC (zgu PySem.F.plainAttrs_list PySem.F.slot_list_extend PySem.F.type_list_extend NV ((bY o).E Γ Z _ X r _ k h6) (cV ((bY e).E Γ Z _ X r _ k h5) hU (cE h4)) (rG h2) (z93 (by rw[eg,h4];rfl) (show 1<20 by decide)) (hb.symm.trans h3) (eX (cE h4)) (nK rfl)) rfl) (λ_ _=>rfl) λ_ _ _ _ _ _ _ z=>z
 |ret e=>exact Wz.x (λΓ Z X r st k kx hp hr h=>by obtain⟨o,hv,h9⟩:=aG h;obtain⟨p,rfl⟩:=yK hv;obtain⟨v,rfl,h8⟩:=aG h9;exact BU ((bY e).E Γ Z _ X r _ k h8)) (λ_ _=>rfl) λ_ _ _ _ _ _ _ z=>z
 |ifS c a b ia ib=>exact Wz.x (λΓ Z X r st k kx hp hr h=>by obtain⟨v,hv,h9⟩:=aG h;obtain⟨p,rfl⟩:=yL hv;obtain⟨h1,h2,h3⟩:=aP h9;exact GV ((bY c).T Γ Z _ X r _ k h1).1 (ia.L Γ Z X r _ k kx (λz=>hp (oX z)) (λz=>hr (oX z)) h2) (ib.L Γ Z X r _ k kx (λz=>hp (oY z)) (λz=>hr (oY z)) h3)) (λ_ _=>rfl) λ_ _ _ _ _ _ _ z=>z
 |bC t it b ib=>exact Wz.x (λΓ Z X r st k kx hp hr h=>by obtain⟨jZ,h⟩:=aE h;obtain⟨⟨t',i,B,o⟩,hv,h9⟩:=aG h;obtain⟨p,rfl⟩:=oS hv;obtain⟨h1,h2,h3,h4⟩:=bE h9;obtain⟨h5,h6,h7⟩:=aP h1;cases fJ h4;show PS X _ (iI (tDW Z.K _) (tDG Z.K _) _);rw[k.kk];exact z8b (hp rfl) (k.ck.calm jZ) ((all it).W Γ.g X r _ _ k.ck h6 h2) (uX k.ck h5) (ib.L Γ Z X r _ k kx (λ_=>hp rfl) (λ_=>hr rfl) h3) (sF h7 _)) (λ_ _=>rfl) λ_ _ _ _ _ _ _ z=>z
 |nO c=>exact Wz.x (λΓ Z X r st k kx hp hr h=>by obtain⟨⟨x,es⟩,hv,h9⟩:=aG h;obtain⟨np,cp,pos,rfl⟩:=yM hv;obtain⟨h1,h2,h3,h4,h5⟩:=dG h9;obtain⟨y,hy,h6⟩:=aG h5;cases eK hy;obtain⟨z,kk,p,rfl⟩:=RQ h6;cases yh h1;obtain⟨g1,g2⟩:=k.ck.gl h2;obtain⟨C,m1,xC⟩:=k.ck.xk.rs x h3;exact PS.imp (zeo (k.room h4).hd g1 m1 g2 xC (hr rfl)) λD σ H q=>q C (by rw[k.mm];exact m1)) (λ_ _=>rfl) λ_ _ _ _ _ _ _ z=>z
 |za s=>exact Wz.x (λΓ Z X r st k kx hp hr h=>by show PS X _ (tDS Z.K _);rw[k.kk];exact(Jc s).R Γ.g X r st k.ck (hp rfl) h) (λ_ _=>rfl) λ_ _ _ _ _ _ _ z=>z
 |A0 o f e=>exact Wz.x (λΓ Z X r st k kx hp hr h=>by obtain⟨⟨ts,v⟩,hv,h9⟩:=aG h;obtain⟨p,rfl⟩:=lQ hv;obtain⟨x,hx,h8⟩:=aG h9;cases eK hx;obtain⟨⟨o',f',p'⟩,ho,h7⟩:=aG h8;cases sE ho;obtain⟨h1,h2,h3,h4⟩:=bE h7;have h1:=eqB h1;subst h1;show PS X _ (EU Z.K _ _ _);rw[k.kk];exact TX ((bY o).E Γ Z _ X r _ k h3) ((bY e).E Γ Z _ X r _ k h4) (rH (cE h2) _ _ _)) (λ_ _=>rfl) λ_ _ _ _ _ _ _ z=>z
 |zb c fl e=>exact Wz.x (λΓ Z X r st k kx hp hr h=>by obtain⟨⟨x,es⟩,hv,h9⟩:=aG h;obtain⟨np,cp,pos,rfl⟩:=yM hv;obtain⟨h1,h2,h3,h4,h5⟩:=dG h9;obtain⟨y,hy,h6⟩:=aG h5;cases eK hy;obtain⟨h6,h7⟩:=aE h6;cases yh h1;obtain⟨g1,g2⟩:=k.ck.gl h2;obtain⟨C,f,fd,ps,n,m1,xf,xi,hn,F,hb⟩:=kx _ _ h3;exact PS.imp (ze4 ((k.room h4).mono hn) g1 m1 g2 xf xi F hb ((bY e).E Γ Z _ X r _ k h7) (cE h6) (hr rfl)) λD σ H q=>q C (by rw[k.mm];exact m1)) (λ_ _=>rfl) λ_ _ _ _ _ _ _ z=>z
 |iR t it b ib=>exact Wz.x (λΓ Z X r st k kx hp hr h=>by obtain⟨jZ,h⟩:=aE h;obtain⟨⟨t',i,B,o⟩,hv,h9⟩:=aG h;obtain⟨p,rfl⟩:=oS hv;obtain⟨h1,h2,h3,h4⟩:=bE h9;obtain⟨h5,h7⟩:=aE h1;cases fJ h4;show PS X _ (iI (wL Z.K _) (tDG Z.K _) _);rw[k.kk];exact z8b (hp rfl) (k.ck.calm jZ) (GY ((bY it).E Γ Z _ X r _ k h2)) (uX k.ck h5) (ib.L Γ Z X r _ k kx (λ_=>hp rfl) (λ_=>hr rfl) h3) (sF h7 _)) (λ_ _=>rfl) λ_ _ _ _ _ _ _ z=>z
 |gW j it b ib=>exact Wz.x (λΓ Z X r st k kx hp hr h=>by obtain⟨jZ,h⟩:=aE h;obtain⟨⟨t',i,B,o⟩,hv,h9⟩:=aG h;obtain⟨p,rfl⟩:=oS hv;obtain⟨h1,h2,h3,h4⟩:=bE h9;obtain⟨h5,h7⟩:=aE h1;cases fJ h4;obtain⟨y,q,rfl,h5⟩:=gT h5;obtain⟨l1,l2,l3⟩:=k.ck.loc h5;show PS X _ (iI (wL Z.K _) (mY _) _);rw[k.kk];exact z8b (hp rfl) (k.ck.calm jZ) (GY ((bY it).E Γ Z _ X r _ k h2)) (BX (by rw[k.ck.hN];exact k.ck.nd) l1 l2 l3) (ib.L Γ Z X r _ k kx (λ_=>hp rfl) (λ_=>hr rfl) h3) (sF h7 _)) (λ_ _=>rfl) λ_ _ _ _ _ _ _ z=>z
 |qC b hs i n ib ih=>exact Wz.x (λΓ Z X r st k kx hp hr h=>T7 ib ih k kx h) (λ_ _=>rfl) λ_ _ _ _ _ _ _ z=>z
 |hn c f h rest ih ir=>exact⟨λ_ _ _ _ _ _ _ _ _ h=>ff rfl h,λ_ _ _ _ _ _ _ _ _ h=>ff rfl h,w_hn ih ir⟩
section
variable {P:cg}{w:World}{K:Z5}{mg:Str->Option Value}{base:Heap}
theorem zww {Z:Wc}{st:Stmt}(M:∃B oc od kV i D an b ct j,fd=W.fnOf x d (z11 st) (z0j st) (z08 st) B kV i D an b ct/\K.lookup f=Z9 ⟨oc,od,.func fd,j⟩/\W.codeIn K b d=Z7)(n:FnScope Γ.g.N ps (z08 st))(hs:Γ.g.sc=z08 st)(p:Γ.g.xc=Z8)(l:Dok Γ.g Z.Κ Z.Φ P w K mg base k)(O:∀E,Zok Γ {Z with E:=E} (CXE P w base) P w K mg base k)(r:Γ.xf=Z8)(kf:Γ.fld=[]\/∀X,X.prog=P->X.w=w->X.K=K->X.mg=mg->X.base=base->Wfk Γ X k)(R:wkL Γ s (z0j st)=Z7)
  (len:∀h H Q E,sp h H Q E->h.length=ps.length) (run:∀h H Q E,sp h H Q E->wS {Z with E:=E} s {nx:=λ_ t=>Q .non t,rt:=Q} (start Γ.g.N h) H):
  FnOk P w K mg base (CXE P w base) (k+1) f fd ps sp:=by
 obtain⟨B,oc,od,kV,i,D,an,b,ct,j,rfl,S,u⟩:=M;refine zmv S u n len λA outer F H h Q E v y=>⟨_,(T8 s).L Γ {Z with E:=E} (gK (CXE P w base) P w K mg base Γ.g.N d (z08 st) f b A outer F H E) k _ ⟨O E,⟨rfl,hs.symm,n.nd,λ_ _=>rfl,by rw[hs];exact n.kind,l.free,l.fns,l.cst,l.mJ,λ_=>v,λ_=>rfl,v.units,λ_=>⟨rfl,rfl⟩,λ_ _ _ z=>(by cases z),λ_ _ z=>(by rw[p]at z;cases z),l.xk⟩,λ_=>v,λm T G U e s' I V=>?_,(λf z=>by have z:Γ.xf=Z9 f:=z;rw[r]at z;cases z),AZ⟩ (kf.elim (λe c fl z=>by rw[e]at z;cases z) λg=>g _ rfl rfl rfl rfl rfl) (λ_=>PassesOwn.leaving) (λ_ m T G U a C ob h I q1 q2 q3 q4 q5 q6 q7=>?_) R,run h H Q E y⟩
 .obtain⟨a,C,dd,t,rfl,fl,q⟩:=V;exact fl.leave (outer:=[]) I rfl rfl rfl λs3 fl=>⟨a,C,dd,t,rfl,fl,q⟩
 .obtain⟨H2,s4,I2,n2⟩:=q2;refine zeh I ?_ q1 q3 q4 q5 q6 rfl rfl rfl λs3 fl=>⟨a,C,ob.dict,G,rfl,fl,q7⟩;cases e:(gK (CXE P w base) P w K mg base Γ.g.N d (z08 st) f b A outer F H E).s₀.heap.get? a with
  |none=>rfl
  |some o=>obtain⟨o',J⟩:=I2.base.there a o e (by show a∉ [];simp);rw[n2]at J;cases J
theorem zc {Z:Wc}{st:Stmt}(e:Fun K x d st f fd)(h:FnScope Γ.g.N ps (z08 st))(hs:Γ.g.sc=z08 st)(b:Γ.g.xc=Z8)(i:Dok Γ.g Z.Κ Z.Φ P w K mg base k)(j:∀E,Zok Γ {Z with E:=E} (CXE P w base) P w K mg base k)(c:Γ.xf=Z8)(kf:Γ.fld=[]\/∀X,X.prog=P->X.w=w->X.K=K->X.mg=mg->X.base=base->Wfk Γ X k)(hc:wkL Γ s (z0j st)=Z7)
 (len:∀a H Q E,sp a H Q E->a.length=ps.length) (run:∀a H Q E,sp a H Q E->wS {Z with E:=E} s {nx:=λ_ l=>Q .non l,rt:=Q} (start Γ.g.N a) H):
 FnOk P w K mg base (CXE P w base) (k+1) f fd ps sp:=zww ⟨_,e.ex⟩ h hs b i j c kf hc len run
end
abbrev AnyB:Ad->Prop:=λ_=>True
abbrev F0 (H:Hp):Fm:=⟨H,λ_=>True,λ_=>Z8,True⟩
section
variable {K:Z5}{H H':Hp}
theorem Rep.old (r:Rep K H B v d):Rep K H (eZ (F0 H)) v d:=(Rep.there _ r).weak λa h=>by
 cases a with
 |none=>exact trivial
 |some a=>exact⟨λz=>h.2 z,trivial⟩
theorem A9 (f:b.length=c.length)(h:∀(i:Nat) g (d:D),c[i]?=Z9 (Z9 (g,d))->g=G.od/\∃v B,b[i]?=Z9 (Z9 v)/\Rep K H B v d):StOk K (F0 H) H b c where
 ext:=Same.refl H
 aH:=λ_ _=>trivial
 own:=λa i e=>by cases e
 len:=f
 sl:=λi g d e=>by obtain⟨rfl,v,B,j,r⟩:=h i g d e;exact⟨v,j,r.old⟩
end
namespace Ct
end Ct
structure kB where
 c:Str
 fl:Str
 B:Str
 cs:List (Str×Bool)
 st:Stmt
abbrev XD:=List Bool×List (Option (Option Value))×List (Option Bool)×List (Option (Bool×Option Value×Option Bool))×i4
def Kh (K:Z5)(A:Addr)(y:Str×Bool):Option (Bool×Option Value×Option Bool):=match Z1 K ce y.1 with
 |some (Z9 (.ref E))=>Z9 ((W.clsIn K E).isSome,W.typeIn K (.ref E),Z0 K (.ref A) (.ref E))
 |_=>Z8
def qG (K:Z5)(r:kB):Option XD:=match Z1 K ce r.c,Z1 K ce r.B with
 |some (Z9 (.ref A)),Z9 (Z9 (.ref D))=>(match K.lookup A with
  |some ⟨.type "type",_,.cls cd,_⟩=>(match Z1 K cd.ns "__init__"with
   |some (Z9 (.ref f))=>(match K.lookup f with
    |some ⟨_,_,.func fd,_⟩=>Z9 ([fI K A,cd.hasDict,W.isFn K (.ref f),W.codeIn K fd.code (r.c++"."++"__init__"),fI K D,(W.clsIn K A).isSome,Z3 K (.ref f)],
     [Z4 K (.ref A) "__setattr__",Z4 K (.ref A) r.fl,Z4 K (.ref A) "__getattribute__",Z4 K (.ref A) "__getattr__",Z4 K (.ref A) "__class__"],
     [Z0 K (.ref A) (.type "object"),Z0 K (.ref A) (.type "BaseException"),Z0 K (.ref A) (.type "ValueError"),Z0 K (.ref A) (.ref D)],r.cs.map (Kh K A),fd)
    |_=>Z8)
   |_=>Z8)
  |_=>Z8)
 |_,_=>Z8
def Ki (r:kB)(x:XD):XD:=([Z7,Z7,Z7,Z7,Z7,Z7,Z7],[Z9 (Z9 (.builtin "object.__setattr__")),Z9 Z8,Z9 (Z9 (.builtin "BaseException.__getattribute__")),Z9 Z8,Z9 (Z9 (.builtin "object.__class__"))],[Z9 Z7,Z9 Z7,Z9 Z7,Z9 Z7],r.cs.map (λy=>Z9 (Z7,Z9 (.type "type"),Z9 y.2)),W.fnOf "__init__" (r.c++"."++"__init__") (z11 r.st) (z0j r.st) (z08 r.st) .none x.2.2.2.2.kwdefaults x.2.2.2.2.doc x.2.2.2.2.pyModule x.2.2.2.2.annotations x.2.2.2.2.code x.2.2.2.2.closureTuple)
def Kj (K:Z5)(g:Str×Int):Option Int:=match Z1 K ce g.1 with
 |some (Z9 (.int n _))=>Z9 n
 |_=>Z8
def KXq (K:iz->Z5)(rs:List kB)(gs:List (Str×Int)):Prop:=∀P,(rs.map (λr=>(qG (K P) r).isSome),rs.map (λr=>qG (K P) r),gs.map (Kj (K P)))=(rs.map (λ_=>Z7),rs.map (λr=>(qG (K P) r).map (Ki r)),gs.map λg=>Z9 g.2)
theorem KXq_r:KXq=KXq:=rfl
structure XAt (K:Z5)(r:kB)(A D f:Addr)(fd:i4):Prop where
 ns:Z1 K ce r.c=Z9 (Z9 (.ref A))
 nb:Z1 K ce r.B=Z9 (Z9 (.ref D))
 xf:XF K A r.fl
 xa:XA K A
 xi:XI K A f
 fu:Fun K "__init__" (r.c++"."++"__init__") r.st f fd
 ed:fI K D=Z7
 sd:Z0 K (.ref A) (.ref D)=Z9 Z7
 sv:Z0 K (.ref A) (.type "ValueError")=Z9 Z7
 cs:∀y∈r.cs,∃E,Z1 K ce y.1=Z9 (Z9 (.ref E))/\(W.clsIn K E).isSome=Z7/\W.typeIn K (.ref E)=Z9 (.type "type")/\Z0 K (.ref A) (.ref E)=Z9 y.2
theorem Ub {K:Z5}(h:(qG K r).isSome=Z7)(e:qG K r=(qG K r).map (Ki r)):∃A D f fd,XAt K r A D f fd:=by
 cases z:qG K r with
 |none=>rw[z]at h;cases h
 |some x=>
  rw[z]at e;have e:=yc e;unfold qG at z;split at z
  .rename_i A D p s;split at z
   .rename_i R cd sl d;split at z
    .rename_i f hf;split at z
     .rename_i oc od fd g i;have z:=yc z;rw[<-z]at e;obtain⟨a,e⟩:=yd e;obtain⟨b,e⟩:=yd e;obtain⟨c,e⟩:=yd e;obtain⟨t,u⟩:=yd e;obtain⟨m,a⟩:=List.cons.inj a;obtain⟨v,a⟩:=List.cons.inj a;obtain⟨w,a⟩:=List.cons.inj a;obtain⟨B,a⟩:=List.cons.inj a;obtain⟨C,a⟩:=List.cons.inj a;obtain⟨F,a⟩:=List.cons.inj a;obtain⟨G,_⟩:=List.cons.inj a;obtain⟨H,b⟩:=List.cons.inj b;obtain⟨I,b⟩:=List.cons.inj b;obtain⟨n,b⟩:=List.cons.inj b;obtain⟨o,b⟩:=List.cons.inj b;obtain⟨J,_⟩:=List.cons.inj b;obtain⟨d1,c⟩:=List.cons.inj c;obtain⟨d2,c⟩:=List.cons.inj c;obtain⟨L,c⟩:=List.cons.inj c;obtain⟨d4,_⟩:=List.cons.inj c;refine⟨A,D,f,fd,p,s,⟨m,λj k l q=>by rw[d]at q;cases q;exact v,H,I,n,o,d1,d2⟩,⟨J,n,o,d1,d2,?_,F,m⟩,⟨λj k l q=>by rw[d]at q;cases q;exact hf,w⟩,⟨⟨oc,od,fd.kwdefaults,fd.doc,fd.pyModule,fd.annotations,fd.code,fd.closureTuple,g,u,i,B⟩,G⟩,C,d4,L,λy M=>?_⟩
      .show(K.lookup A).map (·.cls)=_;rw[d];rfl
      .have q:=gb.mp t y M;unfold Kh at q;split at q
       .rename_i E N;obtain⟨O,q⟩:=yd (yc q);obtain⟨P,Q⟩:=yd q;exact⟨E,N,O,P,Q⟩
       .cases q
     .cases z
    .cases z
   .cases z
  .cases z
theorem E1 {K:iz->Z5}(h:KXq K rs b)(P:iz):(∀r∈rs,∃A D f fd,XAt (K P) r A D f fd)/\∀g∈b,∃t,Z1 (K P) ce g.1=Z9 (Z9 (.int g.2 t)):=by
 obtain⟨c,a⟩:=yd (h P);obtain⟨a,d⟩:=yd a;refine⟨λr hr=>Ub (gb.mp c r hr) (gb.mp a r hr),λg i=>?_⟩;have q:=gb.mp d g i;unfold Kj at q;split at q
 .rename_i n t e;cases q;exact⟨t,e⟩
 .cases q
end Mi
name_quick tkxq for Mi.KXq by Mi.KXq_r
namespace Mi
open PySem PySem.Spec PyProof.Rows L2
section
variable {K:Z5}
theorem znl (r:Rep K H B v d)(b:i<σ.length)
  (q:∀a w,a.length=σ.length->a[i]?=Z9 (Z9 w)->Rep K H AnyB w d->(∀j,j≠i->a[j]?=σ[j]?)->Q a H):tDG K (.nm i) v σ H Q:=by
 refine⟨bo σ.length Z8,F0 H,(.od,d),(bo σ.length Z8).set i (Z9 (z1u (.od,d))),A9 (by rw[dg]) λj g l e=>?_,r.old,rfl,λa m so kp=>?_⟩
 .rw[fh]at e;split at e<;>cases e
 .have c:((bo σ.length Z8).set i (Z9 (z1u (G.od,d))))[i]?=Z9 (Z9 (z1u (G.od,d))):=by
   rw[dm];rw[dg];exact b
  obtain⟨w,f,h⟩:=so.sl i _ _ c;exact q a w kp.len f (h.weak λ_ _=>trivial) λj k=>kp.rest j (by simpa[tgIx]using k)
theorem zqe (r:Rep K H B v (.tuple [a,b]))(n:i<σ.length)(o:j<σ.length)(l:i≠j)
  (q:∀c u w,c.length=σ.length->c[i]?=Z9 (Z9 u)->c[j]?=Z9 (Z9 w)->Rep K H AnyB u a->Rep K H AnyB w b->(∀k,k≠i->k≠j->c[k]?=σ[k]?)->Q c H):tDG K (.tp [i,j]) v σ H Q:=by
 have p:∀g e,z1u (g,e)=(.od,e)\/z1u (g,e)=(.al,e):=λg e=>by cases g<;>first|exact .inl rfl|exact .inr rfl
 refine⟨bo σ.length Z8,F0 H,(.od,.tuple [a,b]),((bo σ.length Z8).set i (Z9 (z1u (gJ a .od,a)))).set j (Z9 (z1u (gJ b .od,b))),A9 (by rw[dg]) λj g z e=>?_,r.old,rfl,λc A so kp=>?_⟩
 .rw[fh]at e;split at e<;>cases e
 .have sl:∀k e g,(((bo σ.length Z8).set i (Z9 (z1u (gJ a .od,a)))).set j (Z9 (z1u (gJ b .od,b))))[k]?=Z9 (Z9 (z1u (g,e)))->∃v,c[k]?=Z9 (Z9 v)/\Rep K H AnyB v e:=fun k e g h=>by
   rcases p g e with m|m
   .rw[m]at h;obtain⟨v,d,f⟩:=so.sl k _ _ h;exact⟨v,d,f.weak λ_ _=>trivial⟩
   .rw[m]at h;obtain⟨v,d,f⟩:=so.sl k _ _ h;exact⟨v,d,f.weak λ_ _=>trivial⟩
  obtain⟨u,d,f⟩:=sl i a _ (by rw[df (Ne.symm l),dm];rw[dg];exact n);obtain⟨w,s,t⟩:=sl j b _ (by rw[dm];rw[du,dg];exact o);exact q c u w kp.len d s f t λk x y=>kp.rest k (by simpa[tgIx]using⟨x,y⟩)
end
section
variable {Z:Wc}{σ:L2.St}{H:Hp}{Q:VK}
theorem E2:StOk Z.K (F0 H) H σ (bo σ.length Z8):=A9 (by rw[dg]) λi g d e=>by rw[fh]at e;split at e<;>cases e
theorem E3 (q:∀a,Same H a->Q (.int n) a):wE Z (.pur (.int n)) σ H Q:=⟨_,F0 H,(.fr,.int n),E2,rfl,λv b c r=>by cases r;exact q b c⟩
theorem Uc (q:∀a,Same H a->Q .non a):wE Z (.pur .non) σ H Q:=⟨_,F0 H,(.fr,.none),E2,rfl,λv b c r=>by cases r;exact q b c⟩
theorem zd (d:ZY x=Z7)(q:∀a,Same H a->Q (.str x) a):wE Z (.pur (.str x)) σ H Q:=⟨_,F0 H,(.fr,.str x),E2,rfl,λv b c r=>by cases r.1;exact q b c⟩
theorem sV {K:Z5}(d:Rep K H B x dx)(f:Rep K H B' y dy)(e:cmpD c dx dy=.ok b)(q:∀a,Same H a->Q (.bl b) a):oJ K (mB (cmpD c)) x y H Q:=⟨B,B',dx,dy,.bool b,d,f,by show(cmpD c dx dy>>=λb=>Res.ok (ZT b))=_;rw[e];rfl,λw a s r=>by cases r;exact q a s⟩
theorem Ud {K:Z5}(a:Rep K H B x dx)(e:eR dx (.int i)=.ok d)(q:∀w,Rep K H B w d->Q w H):lH K x (.int i) H Q:=⟨B,AnyB,dx,.int i,d,a,rfl,e,q⟩
theorem Ue (h:Z.xf=Z9 y)(q:Q y H):wE Z (.gA f) σ H Q:=by show(match Z.xf with|some v=>(λ_ H Q=>Q v H:TE)|none=>mM) σ H Q;rw[h];exact q
theorem Ug (so:StOk Z.K (F0 H) H σ b)(e:aF Z.Κ Z.Φ c b=.ok (g,d))(q:∀v a,Same H a->Rep Z.K a AnyB v d->Q v a):wE Z (.pur c) σ H Q:=⟨b,F0 H,(g,d),so,e,λv a s r=>q v a s (r.weak λ_ _=>trivial)⟩
theorem Uh (so:StOk Z.K (F0 H) H σ a)(e:cP Z.Κ Z.Φ c a=.ok b)(q:∀d,Same H d->R b d):wT Z (.tp c) σ H R:=⟨a,F0 H,b,so,e,q⟩
theorem Ui (q:wE Z a σ H λx c=>wE Z b σ c λy d=>lH Z.K x y d Q):wE Z (.ix a b) σ H Q:=q
theorem Kk (q:wE Z a σ H λx c=>wE Z b σ c λy d=>uF Z.K x y d Q):wE Z (.pY a b) σ H Q:=q
theorem aV (q:wE Z a σ H λx b=>wA Z r σ b λc d=>R (x::c) d):wA Z (.cons a r) σ H R:=q
theorem dN (q:R [] H):wA Z .nil σ H R:=q
theorem aQ (e:σ[i]?=Z9 (Z9 v))(q:Q v H):wE Z (.raw i) σ H Q:=⟨v,e,q⟩
theorem E4 (q:wE Z a σ H λx c=>wE Z b σ c λy d=>oJ Z.K (mB (cmpD e)) x y d λz f=>∃k,z=.bl k/\R k f):wT Z (.tc e a b) σ H R:=q
theorem Uj (q:wE Z a σ H λx b=>∃k,kZ Z.K x b k/\R k b):wT Z (.wtr a) σ H R:=q
theorem Uk (q:wE Z a σ H λx d=>∃c,x=.bl c/\if c=Z7 then wE Z b σ d Q else Q (.bl Z6) d):wE Z (.and a b) σ H Q:=q
theorem E5 (q:wA Z c σ H λa b=>a.length<=bh/\∀p,b p=Z8->Q (.ref p) (upd b p (.tup a))):wE Z (.tup c) σ H Q:=q
theorem mO (q:wA Z c σ H λa b=>a.length<=bh/\∀p,b p=Z8->Q (.ref p) (upd b p (.lst a))):wE Z (.lst c) σ H Q:=q
theorem Ul (q:wE Z it σ H (iB Z.K en λJ h=>∀l,h l=Z8->∃P:Nat->Nat->List V->Hp->Prop,(∃m,P 0 m [] (upd h l (.lst [])))/\∀i m a g,P i m a g->(J.stop i g/\Q (.ref l) g)\/(J.go i g/\a.length<bh/\∃N:List V->Hp->Prop,(∀d j,N d j->∃k,k<m/\P (i+1) k d j)/\∀x n,J.gG i g x n->tDG Z.K t x (eJ o p σ) n λf u=>fV (eJ o p σ) f/\wT {Z with E:=λ_ _ _=>False,xf:=Z8} c f u λb r=>if b=Z7 then wE {Z with E:=λ_ _ _=>False,xf:=Z8} e f r λy s=>s l=Z9 (.lst a)/\N (a++[y]) (upd s l (.lst (a++[y])))else N a r))):wE Z (.lc o p N' t en it c e) σ H Q:=q
end
mutual
theorem Kl:∀(d:aw) (n:Nat),aR n d=Z7->PyData.eqv d d=Z7
 |.none,_,_=>rfl
 |.bool b,_,_=>by cases b<;>rfl
 |.int i,_,_=>by rw[PyData.eqv];exact yf rfl
 |.str s,_,_=>by rw[PyData.eqv];exact beq_self_eq_true s
 |.tuple xs,0,h=>by cases h
 |.list xs,0,h=>by cases h
 |.tuple xs,n+1,h=>by rw[PyData.eqv];exact sW xs n h
 |.list xs,n+1,h=>by rw[PyData.eqv];exact sW xs n h
 |.dict es,n,h=>by cases n<;>cases h
theorem sW:∀(ds:List aw) (n:Nat),eO n ds=Z7->PyData.eqvAll ds ds=Z7
 | [],_,_=>rfl
 |d::ds,n,h=>by obtain⟨h1,h2⟩:=bn.mp h;rw[PyData.eqvAll,Kl d n h1,sW ds n h2];rfl
end
end Mi
namespace Mk
open PySem Mi
def zg:S:=(.seq (.ifS (.not (.and (.tv (.isT (.var 0) ["str"])) (.tv (.cmp .In (.var 0) (.tup (.cons (.str "for") (.cons (.str "against") .nil)))))))
 (.seq .bad
 .nil)
 .nil)
 .nil)
def oZ:Fn:=aM [] [] 1 zg
def zh:S:=(.seq (.drop (.call 0 "check_side" (.cons (.var 0) .nil)))
 (.seq (.ret (.jO (.tv (.cmp .Eq (.var 0) (.str "for"))) (.str "against") (.str "for")))
 .nil))
def kC:Fn:=aM [] [oZ] 1 zh
def zi:S:=(.seq (.drop (.call 0 "check_side" (.cons (.var 1) .nil)))
 (.seq (.ret (.jO (.tv (.cmp .Eq (.var 1) (.str "for"))) (.ix (.var 0) (.int 0)) (.ix (.var 0) (.int 1))))
 .nil))
def gX:Fn:=aM [] [oZ] 2 zi
def sX:S:=(.seq (.asg (.nm 1) .eA)
 (.seq (.bC (.tp [2,3]) (.tv (.var 0))
 (.seq (.dW 1 (.var 2) (.bi "max" (.cons (.var 3) (.cons (.mt "get" (.var 1) (.cons (.var 2) (.cons (.int 0) .nil))) .nil))))
 .nil))
 (.seq (.ret (.gB "tuple" (.tv (.comp 1 [] ["pair"] (.nm 0) (.tv (.sortI 1)) (.tv (.cmp .Gt (.ix (.var 0) (.int 1)) (.int 0))) (.var 0)))))
 .nil)))
def kE:Fn:=aM [] [] 4 sX
def zj:S:=(.seq (.ret (.mt "get" (.gB "dict" (.tv (.var 0))) (.cons (.var 1) (.cons (.int 0) .nil)))) .nil)
def kF:Fn:=aM [] [] 2 zj
def zk:S:=(.seq (.asg (.nm 2) (.gB "dict" (.tv (.var 1))))
 (.seq (.ret (.comp 2 [2] ["name","amount","held"] (.tp [0,1]) (.tv (.var 0)) (.tv (.cmp .Gt (.var 1) (.mt "get" (.var 2) (.cons (.var 0) (.cons (.int 0) .nil))))) (.var 0)))
 .nil))
def kG:Fn:=aM [] [] 3 zk
def zm:S:=(.seq (.ret (.cmp .Eq (.call 0 "over" (.cons (.var 0) (.cons (.var 1) .nil))) (.lst .nil))) .nil)
def sY:Fn:=aM [] [kG] 2 zm
def zo:S:=(.seq (.ifS (.not (.tv (.call 0 "within" (.cons (.var 2) (.cons (.call 1 "side_of" (.cons (.var 0) (.cons (.var 1) .nil))) .nil)))))
 (.seq .bad
 .nil)
 .nil)
 (.seq (.ret (.tup (.cons (.var 0) (.cons (.var 1) (.cons (.var 2) .nil)))))
 .nil))
def sZ:Fn:=aM [] [sY,gX] 3 zo
def zp:S:=(.seq (.ret (.call 0 "side_of" (.cons (.ix (.var 0) (.int 0)) (.cons (.call 1 "other_side" (.cons (.ix (.var 0) (.int 1)) .nil)) .nil)))) .nil)
def lY:Fn:=aM [] [gX,kC] 1 zp
def zr:S:=(.seq (.asg (.nm 2) (.ix (.var 0) (.int 1)))
 (.seq (.asg (.nm 3) (.call 0 "over" (.cons (.ix (.var 0) (.int 2)) (.cons (.call 2 "side_of" (.cons (.var 1) (.cons (.var 2) .nil))) .nil))))
 (.seq (.asg (.nm 4) (.call 0 "over" (.cons (.call 2 "side_of" (.cons (.var 1) (.cons (.call 3 "other_side" (.cons (.var 2) .nil)) .nil))) (.cons (.call 1 "opposed_of" (.cons (.var 0) .nil)) .nil))))
 (.seq (.ret (.bin .Add (.comp 1 [] ["name"] (.nm 0) (.tv (.var 3)) .nil (.tup (.cons (.str "less") (.cons (.var 0) .nil)))) (.comp 1 [] ["name"] (.nm 0) (.tv (.var 4)) .nil (.tup (.cons (.str "more") (.cons (.var 0) .nil))))))
 .nil))))
def tE:Fn:=aM [] [kG,lY,gX,kC] 5 zr
def Km:S:=(.seq (.ret (.cmp .Eq (.call 0 "apart" (.cons (.var 0) (.cons (.var 1) .nil))) (.lst .nil))) .nil)
def vG:Fn:=aM [] [tE] 2 Km
def E6:S:=(.seq (.bC (.tp [2,3]) (.enum (.var 0))
 (.seq (.ifS (.tv (.call 0 "binds" (.cons (.var 3) (.cons (.var 1) .nil))))
 (.seq (.ret (.tup (.cons (.ix (.var 3) (.int 1)) (.cons (.var 2) .nil))))
 .nil)
 .nil)
 .nil))
 (.seq (.ret .non)
 .nil))
def E7:Fn:=aM [] [vG] 4 E6
def Kn:S:=(.seq (.ret (.call 0 "ruling" (.cons (.var 0) (.cons (.var 1) (.cons (.call 1 "side_of" (.cons (.var 0) (.cons (.var 1) .nil))) .nil))))) .nil)
def E8:Fn:=aM [] [sZ,gX] 2 Kn
def Kq:S:=(.seq (.asg (.nm 2) (.comp 1 [] ["row"] (.nm 0) (.tv (.var 0)) (.tv (.cmp .Eq (.ix (.var 0) (.int 0)) (.str "fact"))) (.ix (.var 0) (.int 1))))
 (.seq (.ret (.gB "tuple" (.tv (.comp 1 [2] ["pair","facts"] (.nm 0) (.tv (.var 1)) (.tv (.cmp .In (.ix (.var 0) (.int 0)) (.var 1))) (.var 0)))))
 .nil))
def tF:Fn:=aM [] [] 3 Kq
def Kr:S:=(.seq (.asg (.nm 3) (.ix (.var 0) (.int 0)))
 (.seq (.ifS (.tv (.cmp .Eq (.var 3) (.str "at")))
 (.seq (.ret (.cmp .GtE (.call 0 "degree" (.cons (.var 1) (.cons (.ix (.var 0) (.int 1)) .nil))) (.ix (.var 0) (.int 2))))
 .nil)
 .nil)
 (.seq (.ifS (.tv (.cmp .Eq (.var 3) (.str "is")))
 (.seq (.ret (.cmp .In (.ix (.var 0) (.int 1)) (.var 2)))
 .nil)
 .nil)
 (.seq .bad
 (.seq .bad
 (.seq .bad
 .nil))))))
def vH:Fn:=aM [] [kF] 4 Kr
def Ks:S:=(.seq (.asg (.nm 3) (.ix (.var 0) (.int 0)))
 (.seq (.ifS (.tv (.cmp .Eq (.var 3) (.str "some")))
 (.seq (.ret (.gB "any" (.tv (.comp 2 [0] ["thing","words","asking"] (.tp [0,1]) (.zip (.var 1) (.var 2)) .nil (.call 0 "holds" (.cons (.ix (.var 2) (.int 1)) (.cons (.var 0) (.cons (.var 1) .nil))))))))
 .nil)
 .nil)
 (.seq (.ifS (.tv (.cmp .Eq (.var 3) (.str "all")))
 (.seq (.ret (.gB "all" (.tv (.comp 2 [0] ["thing","words","asking"] (.tp [0,1]) (.zip (.var 1) (.var 2)) .nil (.call 0 "holds" (.cons (.ix (.var 2) (.int 1)) (.cons (.var 0) (.cons (.var 1) .nil))))))))
 .nil)
 .nil)
 (.seq .bad
 (.seq .bad
 (.seq .bad
 .nil))))))
def A':Fn:=aM [] [vH] 4 Ks
def E9:S:=(.seq (.ret (.call 0 "greatest" (.cons (.comp 1 [2,1] ["name","words","thing"] (.nm 0) (.tv (.var 0)) .nil (.tup (.cons (.var 0) (.cons (.jO (.tv (.cmp .In (.var 0) (.var 1))) (.int 1) (.call 1 "degree" (.cons (.var 2) (.cons (.var 0) .nil)))) .nil)))) .nil))) .nil)
def vI:Fn:=aM [] [kE,kF] 3 E9
def Fb:S:=(.seq (.ret (.tup (.cons (.call 0 "pack_of" (.cons (.ix (.var 0) (.int 2)) (.cons (.var 1) (.cons (.var 2) .nil)))) (.cons (.call 0 "pack_of" (.cons (.ix (.var 0) (.int 3)) (.cons (.var 1) (.cons (.var 2) .nil)))) .nil)))) .nil)
def Ba:Fn:=aM [] [vI] 3 Fb
def Kt:S:=(.seq (.asg (.nm 3) (.lst .nil))
 (.seq (.bC (.tp [4,5]) (.zip (.var 1) (.ix (.var 2) (.int 1)))
 (.seq (.asg (.nm 6) (.jO (.tv (.call 0 "holds" (.cons (.ix (.var 0) (.int 2)) (.cons (.var 4) (.cons (.var 5) .nil))))) (.lst (.cons (.ix (.var 0) (.int 1)) .nil)) (.lst .nil)))
 (.seq (.mut "append" 3 (.cons (.bin .Add (.var 5) (.var 6)) .nil))
 .nil)))
 (.seq (.ret (.tup (.cons (.ix (.var 2) (.int 0)) (.cons (.var 3) .nil))))
 .nil)))
def Fe:Fn:=aM [] [vH] 7 Kt
def Ku:S:=(.seq (.ret (.bin .Mult (.bi "len" (.cons (.comp 1 [] ["row"] (.nm 0) (.tv (.var 0)) (.tv (.cmp .Eq (.ix (.var 0) (.int 0)) (.str "open"))) (.var 0)) .nil)) (.var 1))) .nil)
def Ff:Fn:=aM [] [] 2 Ku
def Kv:S:=(.seq (.ifS (.tv (.cmp .Lt (.var 1) (.bi "len" (.cons (.var 0) .nil))))
 (.seq (.ret (.ix (.var 0) (.var 1)))
 .nil)
 .nil)
 (.seq (.ret (.int 0))
 .nil))
def z6r:Fn:=aM [] [] 2 Kv
def Kw:S:=(.seq (.asg (.nm 2) (.bin .Add (.bin .Add (.bin .Mod (.var 0) (.int 1000000007)) (.bin .Mult (.int 31) (.var 1))) (.int 1)))
 (.seq (.ret (.bin .Mod (.bin .Mult (.bin .Mod (.bin .Mult (.var 2) (.var 2)) (.int 2147483629)) (.bin .Add (.var 1) (.int 7))) (.int 2147483647)))
 .nil))
def zt:Fn:=aM [] [] 3 Kw
def Ky:S:=(.seq (.asg (.nm 2) (.str "abcdefghijklmnopqrstuvwxyz"))
 (.seq (.asg (.nm 3) (.str ""))
 (.seq (.bC (.nm 4) (.iM (.cons (.bin .Mod (.var 0) (.int 11)) .nil))
 (.seq (.asg (.nm 3) (.bin .Add (.var 3) (.ix (.var 2) (.bin .Mod (.bin .Add (.bin .FloorDiv (.var 0) (.int 11)) (.bin .Mult (.var 4) (.var 4))) (.int 26)))))
 .nil))
 (.seq (.ret (.bin .Add (.var 3) (.ix (.str "abcghijkmn") (.var 1))))
 .nil))))
def Fg:Fn:=aM [] [] 5 Ky
def Kz:S:=(.seq (.asg (.nm 2) (.bin .Add (.int 1) (.bin .Mod (.call 1 "_law_cell_at" (.cons (.var 0) (.cons (.int 0) .nil))) (.int 4))))
 (.seq (.asg (.nm 3) (.lst (.cons (.tup (.cons (.str "fact") (.cons (.ix (.var 1) (.int 0)) .nil))) .nil)))
 (.seq (.bC (.nm 4) (.iM (.cons (.var 2) .nil))
 (.seq (.asg (.nm 5) (.bin .Mod (.call 0 "_law_mix" (.cons (.call 1 "_law_cell_at" (.cons (.var 0) (.cons (.int 1) .nil))) (.cons (.var 4) .nil))) (.int 3)))
 (.seq (.asg (.nm 6) (.ix (.lst (.cons (.tup (.cons (.tup (.cons (.ix (.var 1) (.int 0)) .nil)) (.cons (.tup .nil) .nil))) (.cons (.tup (.cons (.tup .nil) (.cons (.tup (.cons (.ix (.var 1) (.int 0)) .nil)) .nil))) (.cons (.tup (.cons (.tup .nil) (.cons (.tup .nil) .nil))) .nil)))) (.var 5)))
 (.seq (.mut "append" 3 (.cons (.tup (.cons (.str "open") (.cons (.ix (.var 1) (.bin .Add (.int 1) (.var 4))) (.cons (.ix (.var 6) (.int 0)) (.cons (.ix (.var 6) (.int 1)) .nil))))) .nil))
 .nil))))
 (.seq (.mut "append" 3 (.cons (.tup (.cons (.str "word") (.cons (.ix (.var 1) (.int 6)) (.cons (.tup (.cons (.str "at") (.cons (.ix (.var 1) (.int 0)) (.cons (.int 2) .nil)))) .nil)))) .nil))
 (.seq (.ret (.bin .Add (.var 3) (.lst (.cons (.tup (.cons (.str "claim") (.cons (.ix (.var 1) (.int 7)) (.cons (.tup (.cons (.str "some") (.cons (.tup (.cons (.str "is") (.cons (.ix (.var 1) (.int 1)) .nil))) .nil))) .nil)))) (.cons (.tup (.cons (.str "claim") (.cons (.ix (.var 1) (.int 8)) (.cons (.tup (.cons (.str "all") (.cons (.tup (.cons (.str "is") (.cons (.ix (.var 1) (.int 6)) .nil))) .nil))) .nil)))) .nil)))))
 .nil)))))
def Fh:Fn:=aM [] [zt,z6r] 7 Kz
section
variable {R C:Type}(bi:R->C->Bool)(sd:R->Bool)(full:C->Bool->R)(st:C->C->Bool)
def dO:List R->C->Option Bool
 | [],_=>Z8
 |r::rs,c=>if bi r c then Z9 (sd r)else dO rs c
structure Bk:Prop where
 sf:∀c b,sd (full c b)=b
 t1:∀c c',bi (full c Z7) c'=st c c'
 t2:∀c c',bi (full c Z6) c'=st c' c
 rf:∀c,st c c=Z7
 up:∀r c c',sd r=Z7->bi r c=Z7->st c c'=Z7->bi r c'=Z7
 dn:∀r c c',sd r=Z6->bi r c=Z7->st c' c=Z7->bi r c'=Z7
def Cons (l:List R):Prop:=∀r∈l,∀r'∈l,∀c,bi r c=Z7->bi r' c=Z7->sd r=sd r'
def pA (book:List R)(c:C)(x:List R×List Bool):List (List R×List Bool):=
 match dO bi sd (book++x.1) c with
 |some s=>[(x.1,x.2++[s])]
 |none=>[(x.1++[full c Z7],x.2++[Z7]),(x.1++[full c Z6],x.2++[Z6])]
def lZ (book:List R)(cs:List C):List (List R×List Bool):=cs.foldl (λl c=>l.flatMap (pA bi sd full book c)) [([],[])]
def bits:Nat->List (List Bool)
 |0=>[[]]
 |m+1=>(bits m).flatMap λd=>[d++[Z7],d++[Z6]]
def zu (book:List R)(o:List R)(p:C×Bool):List R:=if dO bi sd (book++o) p.1=Z8 then o++[full p.1 p.2]else o
def bM (book:List R)(cs:List C)(d:List Bool):List R:=(cs.zip d).foldl (zu bi sd full book) []
def okR (book:List R)(cs:List C)(d:List Bool):Prop:=(∀p∈cs.zip d,∀s,dO bi sd book p.1=Z9 s->p.2=s)/\∀p∈cs.zip d,∀q∈cs.zip d,st p.1 q.1=Z7->p.2=Z7->q.2=Z7
variable {bi sd full st}
theorem Bb (h:dO bi sd l c=Z9 s):∃r∈l,bi r c=Z7/\sd r=s:=by
 induction l with
 |nil=>cases h
 |cons r l a=>
  unfold dO at h;by_cases e:bi r c=Z7
  .rw[ya e]at h;cases h;simp_all
  .rw[yb e]at h;obtain⟨b,d,f⟩:=a h;exact⟨b,.tail _ d,f⟩
theorem Fi:dO bi sd l c=Z8↔∀r∈l,bi r c=false:=by
 induction l with
 |nil=>exact⟨λ_ r h=>(by cases h),λ_=>rfl⟩
 |cons r l b=>
  unfold dO;by_cases e:bi r c=Z7
  .rw[ya e];exact⟨λh=>(by cases h),λh=>by rw[h r (.head _)]at e;cases e⟩
  .rw[yb e,b];refine⟨λh a hr=>?_,λh a hr=>h a (.tail _ hr)⟩;rcases au.mp hr with rfl|hr
   .exact qg.mpr e
   .exact h a hr
theorem Bc (h:Cons bi sd l)(hr:r∈l)(e:bi r c=Z7):dO bi sd l c=Z9 (sd r):=by
 cases hb:dO bi sd l c with
 |none=>rw[Fi.mp hb r hr]at e;cases e
 |some s=>obtain⟨a,b,d,f⟩:=Bb hb;rw[<-f,h a b r hr c d e]
theorem Um (k:Bk bi sd full st)(h:Cons bi sd l)(hn:dO bi sd l c=Z8):Cons bi sd (l++[full c b]):=by
 have hn:=Fi.mp hn
 have one:∀r∈l,∀x,bi r x=Z7->bi (full c b) x=Z7->sd r=b:=λr hr x h1 h2=>by
  cases b with
  |true=>
   rw[k.t1]at h2;cases hs:sd r with
   |true=>rfl
   |false=>have:=k.dn r x c hs h1 h2;rw[hn r hr]at this;cases this
  |false=>
   rw[k.t2]at h2;cases hs:sd r with
   |false=>rfl
   |true=>have:=k.up r x c hs h1 h2;rw[hn r hr]at this;cases this
 intro r hr r' pB x h1 h2;rcases bw.mp hr with hr|hr<;>rcases bw.mp pB with pB|pB
 .exact h r hr r' pB x h1 h2
 .rw[ag.mp pB]at h2 ⊢;rw[one r hr x h1 h2,k.sf]
 .rw[ag.mp hr]at h1 ⊢;rw[one r' pB x h2 h1,k.sf]
 .rw[ag.mp hr,ag.mp pB]
theorem tG (h:b.length=a.length):(a++[x]).zip (b++[y])=a.zip b++[(x,y)]:=by rw[List.zip_append h.symm];rfl
theorem Be (h:d.length=cs.length):bM bi sd full a (cs++[c]) (d++[b])=zu bi sd full a (bM bi sd full a cs d) (c,b):=by unfold bM;rw[tG h,j8];rfl
structure Gd (bi:R->C->Bool)(sd:R->Bool)(full:C->Bool->R)(book:List R)(cs:List C)(d:List Bool):Prop where
 co:Cons bi sd (book++bM bi sd full book cs d)
 pC:∀p∈cs.zip d,∃r∈book++bM bi sd full book cs d,bi r p.1=Z7/\sd r=p.2
 of:∀r∈bM bi sd full book cs d,∃p∈cs.zip d,r=full p.1 p.2
theorem zee (k:Bk bi sd full st)(hl:d.length=cs.length)(g:Gd bi sd full a cs d)(ok:okR bi sd st a cs d):
  (∀b,okR bi sd st a (cs++[c]) (d++[b])↔∀s,dO bi sd (a++bM bi sd full a cs d) c=Z9 s->b=s)/\∀b,okR bi sd st a (cs++[c]) (d++[b])->Gd bi sd full a (cs++[c]) (d++[b]):=by
 have n:∀b,okR bi sd st a (cs++[c]) (d++[b])↔∀s,dO bi sd (a++bM bi sd full a cs d) c=Z9 s->b=s:=λb=>by
  unfold okR;rw[tG hl];constructor
  .rintro⟨w,v⟩ s e
   obtain⟨r,hr,l,j⟩:=Bb e;rcases bw.mp hr with hr|hr
   .have co:Cons bi sd a:=λr hr x u=>g.co r (bz _ hr) x (bz _ u);exact w (c,b) (bg _ (.head _)) s (j▸Bc co hr l)
   .obtain⟨p,i,rfl⟩:=g.of r hr;rw[k.sf]at j;cases s with
    |true=>rw[j,k.t1]at l;exact v p (bz _ i) (c,b) (bg _ (.head _)) l j
    |false=>
     rw[j,k.t2]at l;cases hb:b with
     |false=>rfl
     |true=>have:=v (c,b) (bg _ (.head _)) p (bz _ i) l hb;rw[j]at this;cases this
  .intro h;refine⟨λp i s e=>?_,λp i q o l j=>?_⟩
   .rcases bw.mp i with i|i
    .exact ok.1 p i s e
    .cases ag.mp i;obtain⟨r,hr,t,m⟩:=Bb e;exact h s (m▸Bc g.co (bz _ hr) t)
   .rcases bw.mp i with i|i<;>rcases bw.mp o with o|o
    .exact ok.2 p i q o l j
    .cases ag.mp o;obtain⟨r,hr,t,m⟩:=g.pC p i;have:=k.up r p.1 c (m.trans j) t l;exact(h _ (Bc g.co hr this)).trans (m.trans j)
    .cases ag.mp i;obtain⟨r,hr,t,m⟩:=g.pC q o;cases hb:q.2 with
     |true=>rfl
     |false=>have:=k.dn r q.1 c (m.trans hb) t l;have:=h _ (Bc g.co hr this);rw[m.trans hb]at this;have j:b=true:=j;rw[j]at this;cases this
    .cases ag.mp i;cases ag.mp o;exact j
 refine⟨n,λb hb=>?_⟩;cases e:dO bi sd (a++bM bi sd full a cs d) c with
 |none=>
  have ed:bM bi sd full a (cs++[c]) (d++[b])=bM bi sd full a cs d++[full c b]:=Be hl▸ya e;refine⟨by rw[ed,<-gw];exact Um k g.co e,λp i=>?_,λr hr=>?_⟩
  .rw[tG hl]at i;rw[ed];rcases bw.mp i with i|i
   .obtain⟨r,hr,f⟩:=g.pC p i;exact⟨r,by rw[<-gw];exact bz _ hr,f⟩
   .cases ag.mp i;refine⟨full c b,bg _ (bg _ (.head _)),?_,k.sf c b⟩;cases b with
    |true=>rw[k.t1];exact k.rf c
    |false=>rw[k.t2];exact k.rf c
  .rw[ed]at hr;rw[tG hl];rcases bw.mp hr with hr|hr
   .obtain⟨p,i,f⟩:=g.of r hr;exact⟨p,bz _ i,f⟩
   .exact⟨(c,b),bg _ (.head _),ag.mp hr⟩
 |some s=>
  have ed:bM bi sd full a (cs++[c]) (d++[b])=bM bi sd full a cs d:=by rw[Be hl];exact yb (by rw[e];intro z;cases z)
  refine⟨by rw[ed];exact g.co,λp i=>?_,λr hr=>?_⟩
  .rw[tG hl]at i;rw[ed];rcases bw.mp i with i|i
   .exact g.pC p i
   .cases ag.mp i;obtain⟨r,hr,t,m⟩:=Bb e;exact⟨r,hr,t,m.trans (((n b).mp hb) s e).symm⟩
  .rw[ed]at hr;rw[tG hl];obtain⟨p,i,f⟩:=g.of r hr;exact⟨p,bz _ i,f⟩
theorem Bf:∀m d,d∈bits m->d.length=m
 |0,d,h=>by cases ag.mp h;rfl
 |m+1,d,h=>by
  obtain⟨e,he,h⟩:=ja.mp h;rcases au.mp h with rfl|h
  .rw[bq,Bf m e he];rfl
  .rw[ag.mp h,bq,Bf m e he];rfl
theorem KA (hl:d.length=cs.length)(h:okR bi sd st book (cs++[c]) (d++[b])):okR bi sd st book cs d:=by unfold okR at h;rw[tG hl]at h;exact⟨λp hp=>h.1 p (bz _ hp),λp hp q hq=>h.2 p (bz _ hp) q (bz _ hq)⟩
theorem zml (k:Bk bi sd full st)(hb:Cons bi sd a)(D:List C->List Bool->Bool)(i:∀cs d,D cs d=Z7↔okR bi sd st a cs d):∀n cs,cs.length=n->
  lZ bi sd full a cs=((bits n).filter (D cs)).map (λd=>(bM bi sd full a cs d,d))/\∀d∈bits n,okR bi sd st a cs d->Gd bi sd full a cs d:=by
 intro n
 induction n with
 |zero=>
  intro cs h;cases cs with
  |cons c cs=>cases h
  |nil=>
   have o:okR bi sd st a ([]:List C) []:=⟨λp j=>(by cases j),λp j=>(by cases j)⟩;refine⟨?_,λd hd _=>?_⟩
   .show[([],[])]=(([[]]:List (List Bool)).filter (D [])).map _;rw[gj,ya ((i _ _).mpr o)];rfl
   .cases ag.mp hd;exact⟨by rw[show bM bi sd full a ([]:List C) []=[]from rfl,d6];exact hb,λp j=>(by cases j),λr hr=>(by cases hr)⟩
 |succ n v=>
  intro g h;obtain⟨cs,c,rfl⟩:∃cs c,g=cs++[c]:=⟨g.dropLast,g.getLast (λz=>by rw[z]at h;cases h),(pc _).symm⟩;rw[bq]at h;have hn:cs.length=n:=by have:cs.length+1=n+1:=h;omega
  obtain⟨w,t⟩:=v cs hn;have len:=λd hd=>(Bf n d hd).trans hn.symm;refine⟨?_,λx q ok=>?_⟩
  .have e:lZ bi sd full a (cs++[c])=(lZ bi sd full a cs).flatMap (pA bi sd full a c):=by unfold lZ;rw[j8];rfl
   rw[e,w]
   have go:∀l:List (List Bool),(∀d∈l,d∈bits n)->((l.filter (D cs)).map λd=>(bM bi sd full a cs d,d)).flatMap (pA bi sd full a c)=((l.flatMap λd=>[d++[Z7],d++[Z6]]).filter (D (cs++[c]))).map λd=>(bM bi sd full a (cs++[c]) d,d):=by
    intro l hl
    induction l with
    |nil=>rfl
    |cons d l A=>
     have hd:=hl d (.head _);have f:=len d hd;rw[iw,jc,cf,<-A λd hd=>hl d (.tail _ hd),gj];by_cases ok:okR bi sd st a cs d
     .rw[ya ((i _ _).mpr ok),br,iw];refine congrArg (·++_) ?_;obtain⟨u,E⟩:=zee k f (t d hd ok) ok;unfold pA;cases e:dO bi sd (a++bM bi sd full a cs d) c with
      |some s=>
       have y:∀b,D (cs++[c]) (d++[b])=(b==s):=λb=>by
        rw[o0,i,u,e];constructor
        .intro z;rw[z s rfl];simp_all
        .intro z F B;cases B;exact eq_of_beq z
       have m:∀b,bM bi sd full a (cs++[c]) (d++[b])=bM bi sd full a cs d:=λb=>by rw[Be f];exact yb (by rw[e];intro z;cases z)
       cases s
       .rw[gj,yb (by rw[y];decide),gj,ya (by rw[y];rfl)];show _=[(_,_)];rw[m]
       .rw[gj,ya (by rw[y];rfl),gj,yb (by rw[y];decide)];show _=[(_,_)];rw[m]
      |none=>
       have y:=λb=>(i _ _).mpr ((u b).mpr λs z=>by rw[e]at z;cases z);have m:∀b,bM bi sd full a (cs++[c]) (d++[b])=bM bi sd full a cs d++[full c b]:=λb=>by rw[Be f];exact ya e
       rw[gj,ya (y Z7),gj,ya (y Z6)];show _=[(_,_),(_,_)];rw[m,m]
     .rw[yb λz=>ok ((i _ _).mp z)];have no:∀b,¬D (cs++[c]) (d++[b])=true:=λb z=>ok (KA f ((i _ _).mp z));rw[gj,yb (no Z7),gj,yb (no Z6)];rfl
   exact go (bits n) λ_ h=>h
  .obtain⟨d,hd,z⟩:=ja.mp q;have f:=len d hd
   obtain⟨b,rfl⟩:∃b,x=d++[b]:=by
    rcases au.mp z with rfl|z
    .exact⟨Z7,rfl⟩
    .exact⟨Z6,ag.mp z⟩
   have o:=KA f ok;exact(zee k f (t d hd o) o).2 b ok
end
theorem Uo (p:Str×Int)(a b:Option GD)(r:Rho):dQ (.tp [0,1]) (gJ (pr p) .fr,pr p) (a::b::r)=.ok (Z9 (.al,.str p.1)::Z9 (.al,.int p.2)::r):=rfl
theorem Up {Κ:List D}{Φ:List Fn}{l:P}{ρ:Rho}{i:Nat}{g:G}(h:ρ[i]?=Z9 (Z9 (g,.dict (en l))))(hl:l.length<2):aF Κ Φ (.sortI i) ρ=.ok (.fr,.list (l.map pr)):=by rw[SI];rw[h];dsimp only;rw[Ju,R8,Jt];simp only[hl,decide_true,Bool.and_self,if_true]
def Fj (acc:P)(l:P):P:=l.foldl (λa p=>put a p.1 (max p.2 (look a p.1))) acc
def up (l:P):P:=(Jv l).filter λp=>decide (0<p.2)
theorem KC (nd:(ks l).Nodup)(h:∀k∈ks l,k∈ks m):l.length<=m.length:=by have:=Jo nd h;simpa[ks]using this
theorem tH (hb:PK b):kG [pk a,pk b]=.ok (.fr,.list ((a.filter λp=>decide (look b p.1<p.2)).map λp=>.str p.1)):=by exact eL (eS (JK (JI (z02 rfl) rfl (JB _ hb.nd) (Eh b)) (Ju b)) (z0g (EA nofun (z1f (λp=>decide (look b p.1<p.2)) (λp=>.str p.1) (bR (v_var rfl (eF a)).1 rfl) rfl (λp=>[Z9 (.al,.str p.1),Z9 (.al,.int p.2),Z9 (.al,.dict (en b))]) (λp _=>rfl) (λp _=>aN (z0l (z02 rfl) (sN (z02 rfl) (z00 (z02 rfl) (z00 z05.e z09)) (Er _ _) rfl).e rfl).e rfl) (λp _ _=>v_var rfl rfl)))))
theorem Fo (a:List D)(h:eO 39 a=Z7):cmpD .Eq (.list a) (.list [])=.ok a.isEmpty:=by show(if(aR 40 (.list a)&&aR 40 (.list []))=Z7 then Res.ok (dV (.list a) (.list []))else .no)=_;rw[ya (by show(eO 39 a&&Z7)=Z7;rw[h];rfl)];cases a<;>simp[dV,PyData.eqv,PyData.eqvAll]
theorem Uq (l:P):eO 39 (l.map λp=>ZX p.1)=true:=nN.mpr λx a=>by obtain⟨p,_,rfl⟩:=av.mp a;rfl
def wi (a b:P):Bool:=(a.filter λp=>decide (look b p.1<p.2)).isEmpty
theorem Fp (hb:PK b):sY [pk a,pk b]=.ok (.fr,.bool (wi a b)):=by refine eL (z0g (z0s (z0l (iA (z00 (z02 rfl) (z00 (z02 rfl) z09)) rfl (tH hb)) (Ev.of (eC aY)) ?_)));rw[Fo _ (Uq _)];unfold wi;rw[n5]
theorem KD:∀(a:List Int),fW (a.map .int)=Z9 a.sum
 | []=>rfl
 |x::a=>by rw[br,fW,KD a];rfl
theorem vJ (c:PK a)(d:PK b):wi a b=Z7↔∀n,look a n<=look b n:=by
 unfold wi;rw[rc,j1];constructor
 .intro h n;by_cases hn:n∈ks a
  .obtain⟨v,e⟩:=Jl hn;have:=h _ (yS e);have f:look a n=v:=by unfold look;rw[e];rfl
   simp at this;rw[f];omega
  .have :look a n=0:=by unfold look;rw[z24 hn];rfl
   rw[this];exact d.oU n
 .intro h p g;have:=h p.1;rw[c.bT g]at this;simp;omega
def sd (b:Bool):Str:=if b then "for"else "against"
def own (b:Bool)(f a:P):P:=if b then f else a
def kO (b:Bool)(f a:P):P:=if b then a else f
def mP (f a:P):D:=.tuple [pk f,pk a]
def rl (b:Bool)(f a r:P):D:=.tuple [mP f a,.str (sd b),pk r]
theorem Fq (f a:P):aL (mP f a)=true:=by show imms [pk f,pk a]=Z7;rw[imms,imms,eF,eF];rfl
theorem KG (b:Bool)(f a r:P):aL (rl b f a r)=true:=by show imms [mP f a,.str (sd b),pk r]=Z7;rw[imms,imms,imms,Fq,eF];rfl
theorem Ur (b:Bool):oZ [.str (sd b)]=.ok (.fr,.none):=by cases b<;>rfl
theorem KH (b:Bool):kC [.str (sd b)]=.ok (.fr,.str (sd (!b))):=by cases b<;>rfl
theorem Us (h:Ev Κ Φ t a d):aW Κ Φ (.drop t) a=.ok (.nx a):=by obtain⟨g,h⟩:=h;show(aF Κ Φ t a>>=λ_=>Res.ok (Out.nx a))=_;rw[h];rfl
theorem zv (b:Bool)(f a:P):gX [mP f a,.str (sd b)]=.ok (.fr,pk (own b f a)):=by
 refine eL (eS (Us (iA (z00 (z02 rfl) z09) rfl (Ur b))) ?_);cases b with
 |true=>exact z0g (z0s (Ey (k:=Z7) (aN (z0l (z02 rfl) cM.e rfl).e rfl) (λ_=>v_ix (z02 rfl) z05.e rfl (eF f)) (y:=pk f) λz=>by cases z))
 |false=>exact z0g (z0s (Ey (k:=Z6) (aN (z0l (z02 rfl) cM.e rfl).e rfl) (x:=pk a) nofun λ_=>v_ix (z02 rfl) z05.e rfl (eF a)))
theorem KI (b:Bool)(f a:P):own (!b) f a=kO b f a:=by cases b<;>rfl
theorem Ut (b:Bool)(f a r:P):lY [rl b f a r]=.ok (.fr,pk (kO b f a)):=by refine eL ?_;rw[<-KI];exact z0g (z0s (z0m (z00 (v_ix (z02 rfl) z05.e rfl (Fq f a)).e (z00 (iA (z00 (v_ix (z02 rfl) z05.e rfl rfl).e z09) rfl (KH b)) z09)) rfl (zv (!b) f a) (eF _)))
def ov (a b:P):List Str:=(a.filter λp=>decide (look b p.1<p.2)).map (·.1)
theorem Uu (a b:P):((a.filter λp=>decide (look b p.1<p.2)).map λp=>ZX p.1)=(ov a b).map .str:=by unfold ov;rw[dh];rfl
theorem KJ (a b:P):(ov a b).isEmpty=wi a b:=by unfold ov wi;rw[n5]
def vK (x:Str)(n:Str):D:=.tuple [.str x,.str n]
theorem Fs (hf:PK f)(ha:PK a)(p:PK c)(q:PK d)(hr:r.length<=60)(u:c.length<=60)(l2:d.length<=60):tE [rl b f a r,mP c d]=.ok (.fr,.list ((ov r (own b c d)).map (vK "less")++(ov (kO b c d) (kO b f a)).map (vK "more"))):=by
 refine eL ?_;have ho:PK (own b c d):=by cases b<;>assumption
 have s:PK (kO b f a):=by cases b<;>assumption
 have j:=tH (a:=r) ho;have k:=tH (a:=kO b c d) s;rw[Uu]at j k;refine eS (mL (v_ix (z02 rfl) z05.e rfl rfl)) (eS (y4 (JH (z00 (v_ix (z02 rfl) z05.e rfl (eF r)).e (z00 (iA (z00 (z02 rfl) (z00 (z02 rfl) z09)) rfl (zv b c d)) z09)) rfl j) (vA _)) (eS (y4 (JH (z00 (iA (z00 (z02 rfl) (z00 (iA (z00 (z02 rfl) z09) rfl (KH b)) z09)) rfl (by rw[zv,KI])) (z00 (iA (z00 (z02 rfl) z09) rfl (Ut b f a r)) z09)) rfl k) (vA _)) ?_));have l:∀h i x (ns:List Str),h[i]?=Z9 (Z9 (.fr,.list (ns.map .str)))->aF [] [kG,lY,gX,kC] (.comp 1 [] ["name"] (.nm 0) (.tv (.var i)) .nil (.tup (.cons (.str x) (.cons (.var 0) .nil)))) h=.ok (.fr,.list (ns.map (vK x))):=λh i x ns t=>by have:=z1f (Κ:=[]) (Φ:=[kG,lY,gX,kC]) (nt:=1) (js:=[]) (N':=["name"]) (tg:=.nm 0) (elt:=.tup (.cons (.str x) (.cons (.var 0) .nil))) (λ_=>Z7) (vK x) (bR (by rw[mK];rw[t];rfl) rfl) rfl (λn=>[Z9 (.al,.str n)]) (λn _=>rfl) (λn _=>oV) (λn _ _=>cY (aJ cM (aJ (v_var rfl rfl) aY)));rw[fg.mpr λ_ _=>rfl]at this;exact this
 have m:(ov r (own b c d)).length<=60:=by unfold ov;rw[ae];exact bp (j6 _ _) hr
 have o:(ov (kO b c d) (kO b f a)).length<=60:=by unfold ov;rw[ae];exact bp (j6 _ _) (by cases b<;>assumption)
 refine z0g (EA nofun (sM (Ev.of (l _ 3 "less" (ov r (own b c d)) rfl)) (Ev.of (l _ 4 "more" (ov (kO b c d) (kO b f a)) rfl)) (add_list (by grind)) (uH.mpr λz g=>?_)));rcases(bw.mp g)with g|g
 .obtain⟨n,_,rfl⟩:=av.mp g;rfl
 .obtain⟨n,_,rfl⟩:=av.mp g;rfl
theorem Uv {c:Type}(a b:List c):(a++b).isEmpty=(a.isEmpty&&b.isEmpty):=by cases a<;>simp
def bi (b:Bool)(f a r f' a':P):Bool:=wi r (own b f' a')&&wi (kO b f' a') (kO b f a)
theorem Uw (x y:Str)(b c:List Str):eO 39 (b.map (vK x)++c.map (vK y))=true:=nN.mpr λz a=>by
 rcases(bw.mp a)with a|a
 .obtain⟨n,_,rfl⟩:=av.mp a;rfl
 .obtain⟨n,_,rfl⟩:=av.mp a;rfl
theorem Ux (hf:PK f)(ha:PK a)(c:PK d)(e:PK g)(hr:r.length<=60)(h:d.length<=60)(l2:g.length<=60):vG [rl b f a r,mP d g]=.ok (.fr,.bool (bi b f a r d g)):=by refine eL (z0g (z0s (z0l (iA (z00 (z02 rfl) (z00 (z02 rfl) z09)) rfl (Fs hf ha c e hr h l2)) (Ev.of (eC aY)) ?_)));rw[Fo _ (Uw _ _ _ _)];unfold bi;rw[Uv,n5,n5,KJ,KJ]
theorem KN (h:0<b)(c:b<2 ^ 200):cK .FloorDiv (.int a) (.int b)=.ok (.int (a/b)):=by show(if _ then _ else _)=_;rw[ya ⟨h,c⟩]
theorem Uy (cs:List Int):hX "len" [.list (cs.map .int)]=.ok (.int (cs.length:Int)):=by show Res.ok (ZV ((cs.map ZV).length:Int))=_;rw[ae]
theorem zw (ha:Ev Κ Φ a ρ x)(hb:Oo Κ Φ b ρ i)(hc:Oo Κ Φ c ρ j)(h:rL x i j=.ok d):Ev Κ Φ (.sl a b c) ρ d:=by obtain⟨g1,ha⟩:=ha;unfold Oo at hb hc;exact⟨_,by rw[yY];rw[ha,Res.aC,hb,Res.aC,hc,Res.aC];dsimp only;rw[h,Res.aC]⟩
theorem KO {a c:Type}(f:a->c)(b:List a)(i j:Option Int):cut (b.map f) i j=(cut b i j).map f:=by unfold cut;rw[ae,List.map_take,List.map_drop]
theorem Uz (a:List Int)(i j:Option Int):rL (.list (a.map .int)) i j=.ok (.list ((cut a i j).map .int)):=by show Res.ok (ZW (cut (a.map ZV) i j))=_;rw[KO]
def Nx (I:Rho->Prop)(z:Res Out):Prop:=∃dX,z=.ok (.nx dX)/\I dX
theorem pD (a:aL d=Z7):dQ (.nm j) (gJ d g,d) ρ=.ok (ρ.set j (Z9 (.al,d))):=by rw[lT a];rfl
theorem Ft {b:Type}(m:b->D){a:List b}{i:Int}(d:b)(h0:0<=i)(c:i<a.length):eR (.list (a.map m)) (.int i)=.ok (m (a.getD i.toNat d)):=by
 show Res.eE (cR (a.map m) i)=_;rw[AI _ i (m d) h0 (by rw[ae];exact c)]
 congr 1
 have:i.toNat<a.length:=by omega
 rw[az,az,ar,am this];rfl
theorem Fv (a:List D):hX "len" [.list a]=.ok (.int (a.length:Int)):=rfl
theorem vL {a:Type}{m:a->D}(h:∀x,aL (m x)=Z7)(b:List a):imms (b.map m)=true:=uH.mpr λx c=>by obtain⟨p,_,rfl⟩:=av.mp c;exact h p
theorem UA (h:aL d=Z7):eQ (Z9 (.al,d))=Z9 (.al,d):=by show(if aL d=Z7 then Z9 (G.al,d)else Z8)=_;rw[ya h]
theorem KP {s:Type}{m:s->D}{Q:Res Out->Prop}(I:List s->Rho->Prop):∀k pre j,(∀l x n j,pre++k=l++x::n->I l j->(∃i,f (m x) j=.ok (.nx i)/\I (l++[x]) i)\/∃g d,f (m x) j=.ok (.rt g d)/\Q (.ok (.rt g d)))->I pre j->(∃i,cX f (k.map m) j=.ok (.nx i)/\I (pre++k) i)\/∃g d,cX f (k.map m) j=.ok (.rt g d)/\Q (.ok (.rt g d))
 | [],pre,j,_,h=>.inl ⟨j,rfl,by rw[d6];exact h⟩
 |x::k,pre,j,t,h=>by
  rcases t pre x k j rfl h with⟨i,e,v⟩|⟨g,d,e,q⟩
  .have u:pre++x::k=(pre++[x])++k:=by simp
   rcases KP I k (pre++[x]) i (λa b c r hh=>t a b c r (u.trans hh)) v with⟨o,p,w⟩|⟨g,d,p,q⟩
   .exact .inl ⟨o,by rw[br];show(match f (m x) j with|.ok (.nx i)=>cX f (k.map m) i|.ok (.rt g d)=>.ok (.rt g d)|.exc e=>.exc e|.no=>.no)=_;rw[e];exact p,by rw[u];exact w⟩
   .exact .inr ⟨g,d,by rw[br];show(match f (m x) j with|.ok (.nx i)=>cX f (k.map m) i|.ok (.rt g d)=>.ok (.rt g d)|.exc e=>.exc e|.no=>.no)=_;rw[e];exact p,q⟩
  .exact .inr ⟨g,d,by rw[br];show(match f (m x) j with|.ok (.nx i)=>cX f (k.map m) i|.ok (.rt g d)=>.ok (.rt g d)|.exc e=>.exc e|.no=>.no)=_;rw[e],q⟩
theorem zgp {Q:Res Out->Prop}{n:Type}{m:n->D}{l:List n}(h:evF Κ Φ it k=.ok (g,l.map m,j))(I:List n->Rho->Prop)(h0:I [] j)
  (hf:∀pre x c k,l=pre++x::c->I pre k->∃a,dQ s (gJ (m x) g,m x) k=.ok a/\(Nx (I (pre++[x])) (aW Κ Φ p a)\/∃g d,aW Κ Φ p a=.ok (.rt g d)/\Q (.ok (.rt g d)))) (u:∀b,I l b->Q (aW Κ Φ rest b)):Q (aW Κ Φ (.seq (.bC s it p) rest) k):=by
 rcases KP (f:=λx j=>dQ s (gJ x g,x) j>>=λa=>aW Κ Φ p a) I l [] j (λpre x c k v w=>by
  obtain⟨a,e,hh⟩:=hf pre x c k v w;rcases hh with⟨b,o,r⟩|⟨t,d,o,r⟩
  .exact .inl ⟨b,by rw[e,Res.aC,o],r⟩
  .exact .inr ⟨t,d,by rw[e,Res.aC,o],r⟩) h0 with⟨b,e,i⟩|⟨t,d,e,q⟩
 .rw[eS (EC h e) rfl];exact u b i
 .rw[z0g (EC h e)];exact q
theorem UB {a:Type}{b:List a}{x:a×Nat}(h:x∈b.zipIdx):b[x.2]?=Z9 x.1:=List.mem_zipIdx_iff_getElem?.mp h
theorem Bg (d:PK a)(hb:PK b)(hc:PK c)(e:wi a b=Z7)(f:wi b c=Z7):wi a c=true:=(vJ d hc).mpr λn=>xh ((vJ d hb).mp e n) ((vJ hb hc).mp f n)
theorem Fw (ha:PK a):wi a a=true:=(vJ ha ha).mpr λ_=>jy _
theorem KQ (hf:PK f)(c:PK a):PK (own b f a):=by cases b<;>assumption
def mr (p:Bool×P×P×P):D:=rl p.1 p.2.1 p.2.2.1 p.2.2.2
theorem UC (p:Bool×P×P×P):aL (mr p)=true:=KG _ _ _ _
theorem Fx (h:a[i]?=Z9 (Z9 (g,mr p))):Vv [] Φ (.ix (.var i) (.int 1)) a (.str (sd p.1)):=v_ix (z02 h) z05.e rfl rfl
theorem UD {b c:Type}{G:b->Option c}{pre a:List b}{x:b}{v:c}(h:∀y∈pre,G y=Z8)(hx:G x=Z9 v):(pre++x::a).findSome? G=Z9 v:=by grind
theorem UE {α β:Type}{G:α->Option β}{xs:List α}(h:∀y∈xs,G y=Z8):xs.findSome? G=none:=qb.mpr h
theorem kP (a b:Str):dV (.str a) (.str b)=decide (a=b):=by
 by_cases h:a=b
 .rw[yf h,h];exact beq_self_eq_true b
 .rw[yg h];exact beq_false_of_ne h
theorem KR (n:Nat)(ws:List Str):eO n (ws.map .str)=true:=nN.mpr λx hx=>by obtain⟨w,_,rfl⟩:=av.mp hx;cases n<;>rfl
theorem Bh (w:Str)(ws:List Str):cmpD .In (.str w) (.list (ws.map .str))=.ok (decide (w∈ws)):=by
 show(if(aR 40 (.str w)&&eO 40 (ws.map .str))=Z7 then Res.ok ((ws.map ZX).any λy=>dV y (.str w))else .no)=_;rw[KR,List.any_map];show Res.ok _=_
 congr 1
 apply o0.mpr;rw[qz,decide_eq_true_iff];refine⟨λ⟨x,b,a⟩=>?_,λh=>⟨w,h,?_⟩⟩
 .have a:dV (.str x) (.str w)=true:=a;exact ye a▸b
 .show dV (.str w) (.str w)=Z7;rw[kP];simp_all
def tS (a:List Str):D:=.tuple (a.map .str)
theorem kQ (a:List Str):aL (tS a)=true:=vA a
theorem UG:∀{l:P},l.length<2->(Fj [] l).filter (λp=>decide (0<p.2))=l.filter λp=>decide (0<p.2)
 | [],_=>rfl
 | [p],_=>by
  show[(p.1,max p.2 0)].filter _=_;by_cases h:0<p.2
  .rw[show max p.2 0=p.2 by omega]
  .rw[ip (by rw[decide_eq_true_iff];show ¬0<max p.2 0;omega),ip (by simpa using h)]
 |_::_::_,h=>by simp at h;omega
theorem UH (l:P)(hl:l.length<2):kE [.list (l.map pr)]=.ok (.fr,pk (l.filter λp=>decide (0<p.2))):=by
 rw[<-UG hl];unfold kE;refine eL ?_;unfold sX;refine eS (JK SN rfl) ?_;refine zjy (m:=pr) (xs:=l) (EB rfl rfl rfl) (λa ρ=>∃u v,ρ=[Z9 (.od,.list (l.map pr)),Z9 (.fr,.dict (en a)),u,v]/\(ks a).Nodup/\∀k∈ks a,k∈ks l) (λa p=>put a p.1 (max p.2 (look a p.1))) [] ⟨Z8,Z8,rfl,gy,λ_ h=>by cases h⟩ ?_ ?_
 .rintro a p ρ hp ⟨u,v,rfl,nd,hs⟩
  refine⟨_,eS (SR (l:=a) (n:=p.1) (v:=max p.2 (look a p.1)) (fB (z00 (z02 rfl) (z00 (sN (z02 rfl) (z00 (z02 rfl) (z00 z05.e z09)) (Er _ _) rfl).e z09)) (So _ _) rfl) (z02 rfl) rfl nd (by have:=KC nd hs;omega)) sP,_,_,rfl,Jm _ _ _ nd,λk hk=>?_⟩;rcases(Ee _ _ _ _).mp hk with rfl|hk
  .exact av.mpr ⟨p,hp,rfl⟩
  .exact hs k hk
 .rintro ρ ⟨u,v,rfl,nd,hs⟩
  refine z0g (z0s (pW (Ev.of (z1f (m:=pr) (xs:=Fj [] l) (λp=>decide (0<p.2)) pr (bR (Up (l:=Fj [] l) rfl (by have:=KC nd hs;exact wa this hl)) rfl) rfl (λp=>[Z9 (.al,pr p)]) (λp _=>rfl) (λp _=>aN (z0l (v_ix (z02 rfl) z05.e rfl rfl).e z05.e rfl).e rfl) (λp _ _=>v_var rfl rfl))) rfl rfl (eF _)))
theorem z5z (h:PK al)(n:Str):kF [pk al,.str n]=.ok (.fr,.int (look al n)):=by exact eL (z0g (z0s (sN (Ev.of (JI (z02 rfl) rfl (JB _ h.nd) (Eh al))) (z00 (z02 rfl) (z00 z05.e z09)) (Er _ _) rfl)))
def vv (wd:List Str)(al:P)(n:Str):Int:=if n∈wd then 1 else look al n
def nv (wd:List Str)(al:P)(ns:List Str):P:=ns.map λn=>(n,vv wd al n)
theorem KS {al:P}(h:PK al)(wd ns:List Str)(hl:ns.length<=1):vI [tS ns,pk al,.list (wd.map .str)]=.ok (.fr,pk ((nv wd al ns).filter λp=>decide (0<p.2))):=by
 unfold vI;refine eL ?_;unfold E9
 have hc:=z1f (Κ:=[]) (Φ:=[kE,kF]) (ρ:=[Z9 (.od,tS ns),Z9 (.od,pk al),Z9 (.od,.list (wd.map .str))]) (nt:=1) (js:=[2,1]) (N':=["name","words","thing"]) (tg:=.nm 0) (it:=.tv (.var 0)) (cond:=.nil) (elt:=.tup (.cons (.var 0) (.cons (.jO (.tv (.cmp .In (.var 0) (.var 1))) (.int 1) (.call 1 "degree" (.cons (.var 2) (.cons (.var 0) .nil)))) .nil))) (m:=ZX) (xs:=ns) (λ_=>Z7) (λn=>pr (n,vv wd al n)) (bR (v_var rfl (kQ ns)).1 rfl) rfl (λn=>[Z9 (.al,.str n),Z9 (.od,.list (wd.map .str)),Z9 (.od,pk al)]) (λ_ _=>rfl) (λ_ _=>oV) λn _ _=>by
  have hi:=Ey (Κ:=[]) (Φ:=[kE,kF]) (ρ:=[Z9 (.al,.str n),Z9 (.od,.list (wd.map .str)),Z9 (.od,pk al)]) (c:=.tv (.cmp .In (.var 0) (.var 1))) (a:=.int 1) (b:=.call 1 "degree" (.cons (.var 2) (.cons (.var 0) .nil))) (aN (z0l (z02 rfl) (z02 rfl) (Bh n wd)).e rfl) (λ_=>z05) λ_=>z0m (z00 (z02 rfl) (z00 (z02 rfl) z09)) rfl (z5z h n) rfl
  have e:(if truth (.bool (decide (n∈wd)))=Z7 then ZV 1 else .int (look al n))=.int (vv wd al n):=by
   unfold vv;by_cases hn:n∈wd
   .rw[ya hn,yf hn];rfl
   .rw[yb hn,yg hn];rfl
  rw[e]at hi;exact cY (aJ (v_var rfl rfl) (aJ hi aY))
 rw[fg.mpr (λ_ _=>rfl),show(ns.map λn=>pr (n,vv wd al n))=(nv wd al ns).map pr by unfold nv;rw[dh];rfl]at hc;exact z0g (z0s (z0m (z00 (Ev.of hc) z09) rfl (UH _ (by unfold nv;rw[ae];omega)) (eF _)))
theorem UI (hf:PK f)(c:PK a)(h:wi r (own b f a)=Z7):sZ [mP f a,.str (sd b),pk r]=.ok (.fr,rl b f a r):=by exact eL (AL (rV (aN (z0m (z00 (z02 rfl) (z00 (iA (z00 (z02 rfl) (z00 (z02 rfl) z09)) rfl (zv b f a)) z09)) rfl (Fp (KQ hf c)) rfl).e rfl)) (by rw[h];rfl) (z0g (z0s (cY (aJ (v_var rfl (Fq _ _)) (aJ (v_var rfl rfl) (aJ (v_var rfl (eF _)) aY)))))))
def mQ (fs:List Str)(th:P):P:=th.filter λp=>decide (p.1∈fs)
theorem UJ (h:evW [] Φ it ρ=.ok (g,th.map pr))(a:bW (ρ.getD j Z8)=Z9 (.al,.list (fs.map .str))\/bW (ρ.getD j Z8)=Z9 (.od,.list (fs.map .str)))(c:List Str):aF [] Φ (.comp 1 [j] c (.nm 0) it (.tv (.cmp .In (.ix (.var 0) (.int 0)) (.var 1))) (.var 0)) ρ=.ok (.fr,.list ((mQ fs th).map pr)):=by obtain⟨b,a⟩:∃b,bW (ρ.getD j Z8)=Z9 (b,.list (fs.map .str)):=a.elim (λz=>⟨_,z⟩) λz=>⟨_,z⟩;exact z1f (nt:=1) (js:=[j]) (tg:=.nm 0) (cond:=.tv (.cmp .In (.ix (.var 0) (.int 0)) (.var 1))) (elt:=.var 0) (λp=>decide (p.1∈fs)) pr h rfl (λp=>[Z9 (.al,pr p),Z9 (b,.list (fs.map .str))]) (λp _=>by rw[br,a];rfl) (λp _=>aN (z0l (v_ix (z02 rfl) z05.e rfl rfl).e (z02 rfl) (Bh _ _)).e rfl) λp _ _=>v_var rfl (R9 p)
abbrev Q2:={p:P//PK p/\p.length<=2}
abbrev Cs:=Q2×Q2
abbrev Ru:=Bool×Q2×Q2×Q2
def cD (c:Cs):D:=mP c.1.1 c.2.1
def cC (r:Ru):D:=mr (r.1,r.2.1.1,r.2.2.1.1,r.2.2.2.1)
def eT (r:Ru)(c:Cs):Bool:=bi r.1 r.2.1.1 r.2.2.1.1 r.2.2.2.1 c.1.1 c.2.1
def stC (c c':Cs):Bool:=wi c.1.1 c'.1.1&&wi c'.2.1 c.2.1
def iS (r:Ru):Bool:=r.1
def pE (c:Cs)(b:Bool):Ru:=(b,c.1,c.2,if b then c.1 else c.2)
theorem vM (r:Ru):aL (cC r)=true:=UC _
theorem vN:Bk eT iS pE stC where
 sf:=λ_ _=>rfl
 t1:=λ_ _=>rfl
 t2:=λc d=>Bool.and_comm _ _
 rf:=λc=>by unfold stC;rw[Fw c.1.2.1,Fw c.2.2.1];rfl
 up:=λr c d hs e g=>by obtain⟨b,f,a,q⟩:=r;cases hs;obtain⟨h,i⟩:=bn.mp e;obtain⟨j,k⟩:=bn.mp g;exact bn.mpr ⟨Bg q.2.1 c.1.2.1 d.1.2.1 h j,Bg d.2.2.1 c.2.2.1 a.2.1 k i⟩
 dn:=λr c d hs e g=>by obtain⟨b,f,a,q⟩:=r;cases hs;obtain⟨h,i⟩:=bn.mp e;obtain⟨j,k⟩:=bn.mp g;exact bn.mpr ⟨Bg q.2.1 c.2.2.1 d.2.2.1 h k,Bg d.1.2.1 c.1.2.1 f.2.1 j i⟩
theorem UK (r:Ru)(c:Cs):vG [cC r,cD c]=.ok (.fr,.bool (eT r c)):=Ux r.2.1.2.1 r.2.2.1.2.1 c.1.2.1 c.2.2.1 (bp r.2.2.2.2.2 (by decide)) (bp c.1.2.2 (by decide)) (bp c.2.2.2 (by decide))
def qH (k:Nat):Option Bool->D
 |none=>.none
 |some s=>.tuple [.str (sd s),.int k]
theorem UL (k:Nat)(o:Option Bool):aL (qH k o)=true:=by cases o<;>rfl
theorem UM {R C:Type}{bi:R->C->Bool}{sd:R->Bool}{pre a:List R}{r:R}{c:C}(h:∀y∈pre,bi y c=Z6)(hr:bi r c=Z7):dO bi sd (pre++r::a) c=Z9 (sd r):=by
 induction pre with
 |nil=>exact ya hr
 |cons y pre b=>show(if bi y c=Z7 then _ else _)=_;rw[yb (by rw[h y (.head _)];decide)];exact b λz d=>h z (.tail _ d)
theorem UN {a:List Ru}(h:b[i]?=Z9 (Z9 (.od,.list (a.map cC))))(hl:a.length<=100):evF Κ Φ (.enum (.var i)) b=.ok (.al,a.zipIdx.map λx=>.tuple [.int x.2,cC x.1],b):=by rw[SS (by rw[mK];rw[h];rfl) rfl (SU (vL vM a) (by grind)),AK]
theorem UO (hl:rs.length<=100):∃k,E7 [.list (rs.map cC),cD c]=.ok (.fr,qH k (dO eT iS rs c)):=by
 suffices h:∃k,aW [] [vG] E6 [Z9 (.od,.list (rs.map cC)),Z9 (.od,cD c),Z8,Z8]=.ok (.rt .fr (qH k (dO eT iS rs c))) by obtain⟨k,h⟩:=h;exact⟨k,eL h⟩
 let Q:Res Out->Prop:=λz=>∃k,z=.ok (.rt .fr (qH k (dO eT iS rs c)))
 show Q _;refine zgp (UN rfl hl) (λpre b=>(∀y∈pre,eT y.1 c=Z6)/\∃d f,b=[Z9 (.od,.list (rs.map cC)),Z9 (.od,cD c),d,f]) ⟨nofun,Z8,Z8,rfl⟩ ?_ ?_
 .rintro pre x a b hx ⟨hn,d,f,rfl⟩
  refine⟨_,SV rfl (vM x.1),?_⟩;have ht:Tt [] [vG] (.tv (.call 0 "binds" (.cons (.var 3) (.cons (.var 1) .nil)))) [Z9 (.od,.list (rs.map cC)),Z9 (.od,cD c),Z9 (.al,.int x.2),Z9 (.al,cC x.1)] (eT x.1 c):=aN (z0m (z00 (z02 rfl) (z00 (z02 rfl) z09)) rfl (UK x.1 c) rfl).e rfl;cases hb:eT x.1 c with
  |true=>
   refine .inr ⟨.fr,qH x.2 (Z9 x.1.1),z0g (z6b ht (λ_=>z0g (z0s (cY (aJ (Fx (p:=(x.1.1,x.1.2.1.1,x.1.2.2.1.1,x.1.2.2.2.1)) rfl) (aJ (v_var rfl rfl) aY))))) λz=>by rw[hb]at z;cases z),x.2,?_⟩;have e:rs=pre.map (·.1)++x.1::a.map (·.1):=by have:rs.zipIdx.map (·.1)=(pre++x::a).map (·.1):=congrArg _ hx;rw[ul,cf]at this;exact this
   rw[e,UM (λy g=>by obtain⟨z,i,rfl⟩:=av.mp g;exact hn z i) hb];rfl
  |false=>
   refine .inl ⟨_,eS (z6b ht (λz=>by rw[hb]at z;cases z) λ_=>sP) sP,λy g=>?_,_,_,rfl⟩;rcases bw.mp g with z|z
   .exact hn y z
   .rw[ag.mp z];exact hb
 .rintro b ⟨hn,d,f,rfl⟩
  refine⟨0,?_⟩;have e:dO eT iS rs c=none:=Fi.mpr λr hr=>by rw[<-ul 0 rs]at hr;obtain⟨z,i,rfl⟩:=av.mp hr;exact hn z i
  rw[e];exact z0g (z0s SJ)
theorem UP (c:Cs)(b:Bool):E8 [cD c,.str (sd b)]=.ok (.fr,cC (pE c b)):=by
 have e:cC (pE c b)=rl b c.1.1 c.2.1 (own b c.1.1 c.2.1):=by cases b<;>rfl
 refine eL ?_;rw[e];exact z0g (z0s (z0m (z00 (z02 rfl) (z00 (z02 rfl) (z00 (iA (z00 (z02 rfl) (z00 (z02 rfl) z09)) rfl (zv b c.1.1 c.2.1)) z09))) rfl (UI c.1.2.1 c.2.2.1 (Fw (KQ c.1.2.1 c.2.2.1))) (KG _ _ _ _)))
theorem Fy (a:List Int)(h0:0<=k):∃v,z6r [.list (a.map .int),.int k]=.ok (.fr,.int v):=by
 have hc:Tt [] [] (.tv (.cmp .Lt (.var 1) (.bi "len" (.cons (.var 0) .nil)))) [Z9 (.od,.list (a.map .int)),Z9 (.od,.int k)] (decide (k<a.length)):=aN (z0l (z02 rfl) (fB (z00 (z02 rfl) z09) (by show Res.ok (ZV ((a.map ZV).length:Nat))=_;rw[ae]) rfl).e rfl).e rfl;cases hk:decide (k<a.length)with
 |true=>exact⟨_,eL (SW hc hk (z0g (z0s (v_ix (z02 rfl) (z02 rfl) (Su h0 (ye hk)) rfl))))⟩
 |false=>exact⟨0,eL (AL hc hk (z0g (z0s z05)))⟩
structure SO (fs sf:List Str):Prop where
 eq:fs=sf
 lf:fs.length<=1
 l2:sf.length<=2
 pw:sf.Pairwise sl
structure Op where
 n:Str
 fs:List Str
 gs:List Str
 sf:List Str
 sg:List Str
 of:SO fs sf
 og:SO gs sg
 so:ZY n=Z7
def opD (o:Op):D:=.tuple [.str "open",.str o.n,tS o.fs,tS o.gs]
theorem UQ (o:Op):aL (opD o)=true:=by show imms [.str "open",.str o.n,tS o.fs,tS o.gs]=Z7;rw[imms,imms,imms,imms,kQ,kQ];rfl
theorem UR {ns:List Str}(h:∀p∈l,p.1∈ns)(hn:n∉ns):look l n=0:=by unfold look;rw[z24 λz=>by obtain⟨p,a,rfl⟩:=av.mp z;exact hn (h p a)];rfl
def cv (ws:List Str)(th:P)(l:List Str):P:=(nv ws th l).filter λp=>decide (0<p.2)
theorem vO (h:l.Pairwise sl):PK (cv ws th l) where
 sd:=(jp.mpr (h.imp λ{a b} h=>h):(nv ws th l).Pairwise _).sublist um
 pos:=λp c=>ye (fm.mp c).2
theorem KU:(cv ws a l).length<=l.length:=by have:=j6 (λp:Str×Int=>decide (0<p.2)) (nv ws a l);unfold cv;unfold nv at this ⊢;rw[ae]at this;exact this
theorem US:∀p∈cv ws b l,p.1∈l:=λp a=>by obtain⟨n,hn,rfl⟩:=av.mp (fm.mp a).1;exact hn
theorem zx (h:l.Pairwise sl)(n:Str):look (cv ws th l) n=if n∈l then max (vv ws th n) 0 else 0:=by
 by_cases hn:n∈l
 .rw[ya hn];by_cases b:0<vv ws th n
  .have :(n,vv ws th n)∈cv ws th l:=fm.mpr ⟨av.mpr ⟨n,hn,rfl⟩,yf b⟩;unfold look;rw[yT (vO h).nd this];show vv ws th n=_;omega
  .have e:fnd (cv ws th l) n=none:=z24 fun z=>by
    obtain⟨p,a,rfl⟩:=av.mp z;obtain⟨c,d⟩:=fm.mp a;obtain⟨m,_,rfl⟩:=av.mp c;exact b (ye d)
   unfold look;rw[e];show 0=_;omega
 .rw[yb hn];exact UR US hn
def cZ (o:Op)(th:P)(ws:List Str):Cs:=(⟨cv ws th o.sf,vO o.of.pw,bp KU o.of.l2⟩,⟨cv ws th o.sg,vO o.og.pw,bp KU o.og.l2⟩)
theorem UT (o:Op){th:P}(h:PK th)(ws:List Str):Ba [opD o,pk th,.list (ws.map .str)]=.ok (.fr,cD (cZ o th ws)):=by
 have e1:vI [tS o.fs,pk th,.list (ws.map .str)]=.ok (.fr,pk (cv ws th o.sf)):=by rw[<-o.of.eq];exact KS h ws o.fs o.of.lf
 have e2:vI [tS o.gs,pk th,.list (ws.map .str)]=.ok (.fr,pk (cv ws th o.sg)):=by rw[<-o.og.eq];exact KS h ws o.gs o.og.lf
 unfold Ba;refine eL ?_;unfold Fb;exact z0g (z0s (cY (aJ (z0m (z00 (v_ix (d:=tS o.fs) (z02 rfl) z05.e rfl (kQ _)).e (z00 (z02 rfl) (z00 (z02 rfl) z09))) rfl e1 (eF _)) (aJ (z0m (z00 (v_ix (d:=tS o.gs) (z02 rfl) z05.e rfl (kQ _)).e (z00 (z02 rfl) (z00 (z02 rfl) z09))) rfl e2 (eF _)) aY))))
abbrev Ce:=Nat×Cs
abbrev Re:=Nat×Ru
def qI (r:Re)(c:Ce):Bool:=eT r.2 c.2
def qJ (r:Re):Bool:=r.2.1
def vP (c:Ce)(b:Bool):Re:=(c.1,pE c.2 b)
def zy (c c':Ce):Bool:=stC c.2 c'.2
theorem UU:Bk qI qJ vP zy where
 sf:=λc b=>vN.sf c.2 b
 t1:=λc a=>vN.t1 c.2 a.2
 t2:=λc a=>vN.t2 c.2 a.2
 rf:=λc=>vN.rf c.2
 up:=λr c a=>vN.up r.2 c.2 a.2
 dn:=λr c a=>vN.dn r.2 c.2 a.2
def qK (rs:List Ru):List Re:=rs.map λr=>(0,r)
theorem UW (rs:List Ru):(qK rs).map (·.2)=rs:=by unfold qK;rw[dh];exact List.map_id' rs
theorem KW:∀l c,dO qI qJ l c=dO eT iS (l.map (·.2)) c.2
 | [],_=>rfl
 |r::l,c=>by show(if eT r.2 c.2=Z7 then _ else _)=(if eT r.2 c.2=Z7 then _ else _);rw[KW l c];rfl
theorem UX (h:Cons eT iS rs):Cons qI qJ (qK rs):=λr hr r' pB c h1 h2=>by obtain⟨a,ha,rfl⟩:=av.mp hr;obtain⟨a',uQ,rfl⟩:=av.mp pB;exact h a ha a' uQ c.2 h1 h2
abbrev En:=Str×Nat×Ru
abbrev Rdg:=List En×List (List Str)
def ho (o:Op)(b:Bool):List Str:=if b then[o.n]else[]
def tag (o:Op)(r:Re):En:=(o.n,r.1,r.2)
def gD (o:Op)(k:Nat)(x:Rdg)(es:List En)(b:Bool):Rdg:=(x.1++es,x.2.set k (x.2.getD k []++ho o b))
def dZ (o:Op)(rs:List Ru)(k:Nat)(th:P)(x:Rdg):List Rdg:=
 match dO eT iS (rs++(x.1.filter λe=>decide (e.1=o.n)).map (·.2.2)) (cZ o th (x.2.getD k []))with
 |some s=>[gD o k x [] s]
 |none=>[gD o k x [(o.n,k,pE (cZ o th (x.2.getD k [])) Z7)] Z7,gD o k x [(o.n,k,pE (cZ o th (x.2.getD k [])) Z6)] Z6]
def openK (o:Op)(rs:List Ru)(ts:List (P×Nat))(l:List Rdg):List Rdg:=ts.foldl (λl x=>l.flatMap (dZ o rs x.2 x.1)) l
def z1n (o:Op)(rs:List Ru)(ths:List P)(l:List Rdg):List Rdg:=openK o rs ths.zipIdx l
def mR (o:Op):List (List Str)->List Bool->List (List Str)
 |w::hs,b::d=>(w++ho o b)::mR o hs d
 |hs,[]=>hs
 | [],_::_=>[]
theorem KY (o:Op):∀hs d k,d.length<=k->(mR o hs d).getD k []=hs.getD k []
 | [],[],_,_=>rfl
 | [],_::_,_,_=>rfl
 |_::_,[],_,_=>rfl
 |w::hs,b::d,0,h=>by simp at h
 |w::hs,b::d,k+1,h=>by exact KY o hs d k (by simpa using h)
theorem KZ (o:Op)(b:Bool):∀hs d,d.length<hs.length->mR o hs (d++[b])=(mR o hs d).set d.length ((mR o hs d).getD d.length []++ho o b)
 | [],_,h=>by cases h
 |w::hs,[],_=>by cases hs<;>rfl
 |w::hs,c::d,h=>by show(w++ho o c)::mR o hs (d++[b])=(w++ho o c)::(mR o hs d).set d.length ((mR o hs d).getD d.length []++ho o b);rw[KZ o b hs d (by simpa using h)]
section
variable {o:Op}{rs:List Ru}{es:List En}{hs:List (List Str)}
def stK (o:Op)(es:List En)(hs:List (List Str))(y:List Re×List Bool):Rdg:=(es++y.1.map (tag o),mR o hs y.2)
theorem UY (hn:∀e∈es,e.1≠o.n)(l:List Re):((es++l.map (tag o)).filter λe=>decide (e.1=o.n)).map (λe:En=>e.2.2)=l.map (·.2):=by rw[jc,j1.mpr λe a=>by rw[decide_eq_true_iff];exact hn e a,List.nil_append,fg.mpr λe a=>by obtain⟨r,_,rfl⟩:=av.mp a;exact yf rfl,dh];rfl
theorem zkq (hn:∀e∈es,e.1≠o.n)(hk:y.2.length=k)(h:k<hs.length):
  dZ o rs k a (stK o es hs y)=(pA qI qJ vP (qK rs) (k,cZ o a (hs.getD k [])) y).map (stK o es hs):=by
 have c:(stK o es hs y).2.getD k []=hs.getD k []:=KY o hs y.2 k (by omega);have nw:∀z b,gD o k (stK o es hs y) (z.map (tag o)) b=stK o es hs (y.1++z,y.2++[b]):=λz b=>by unfold gD stK;rw[KZ o b hs y.2 (by omega),hk,cf,gw]
 unfold dZ pA;rw[c,show(stK o es hs y).1=es++y.1.map (tag o)from rfl,UY hn,KW,cf,UW];cases dO eT iS (rs++y.1.map (·.2)) (cZ o a (hs.getD k []))with
 |some s=>show[gD o k (stK o es hs y) (([]:List Re).map (tag o)) s]=[_];rw[nw,d6]
 |none=>show[gD o k (stK o es hs y) ([vP (k,cZ o a (hs.getD k [])) Z7].map (tag o)) Z7,gD o k (stK o es hs y) ([vP (k,cZ o a (hs.getD k [])) Z6].map (tag o)) Z6]=[_,_];rw[nw,nw]
def zA (o:Op)(hs:List (List Str))(ts:List (P×Nat)):List Ce:=ts.map λx=>(x.2,cZ o x.1 (hs.getD x.2 []))
theorem zds (hn:∀e∈es,e.1≠o.n):∀(ts:List P) k (l:List (List Re×List Bool)),(∀y∈l,y.2.length=k)->k+ts.length<=hs.length->
  openK o rs (ts.zipIdx k) (l.map (stK o es hs))=((zA o hs (ts.zipIdx k)).foldl (λl c=>l.flatMap (pA qI qJ vP (qK rs) c)) l).map (stK o es hs)
 | [],_,_,_,_=>rfl
 |t::ts,k,l,hl,h=>by
  have e:(l.map (stK o es hs)).flatMap (dZ o rs k t)=(l.flatMap (pA qI qJ vP (qK rs) (k,cZ o t (hs.getD k [])))).map (stK o es hs):=by
   rw[List.flatMap_map,List.map_flatMap]
   induction l with
   |nil=>rfl
   |cons y l ih=>rw[iw,iw,ih λy hy=>hl y (.tail _ hy),zkq hn (hl y (.head _)) (by rw[bu]at h;omega)]
  show openK o rs (ts.zipIdx (k+1)) ((l.map (stK o es hs)).flatMap (dZ o rs k t))=_;rw[e];refine zds hn ts (k+1) _ (λy hy=>?_) (by rw[bu]at h;omega);obtain⟨z,hz,hy⟩:=ja.mp hy;have hz:=hl z hz;unfold pA at hy;cases hb:dO qI qJ (qK rs++z.1) (k,cZ o t (hs.getD k []))with
  |some s=>rw[hb]at hy;rw[ag.mp hy,bq,hz];rfl
  |none=>
   rw[hb]at hy;rcases au.mp hy with rfl|hy
   .rw[bq,hz];rfl
   .rw[ag.mp hy,bq,hz];rfl
theorem UZ:∀(d:List Bool) (n:Nat),d.length=n->d∈bits n:=by
 intro d n h
 induction n generalizing d with
 |zero=>rw[io.mp h];exact .head _
 |succ n ih=>
  obtain⟨e,b,rfl⟩:∃e b,d=e++[b]:=⟨d.dropLast,d.getLast (λz=>by rw[z]at h;cases h),(pc _).symm⟩;refine ja.mpr ⟨e,ih e (by rw[bq]at h;simpa using h),?_⟩;cases b
  .exact .tail _ (.head _)
  .exact .head _
end
theorem K0 (o:Op)(b:List Ru):∀a l c,openK o b a (l++c)=openK o b a l++openK o b a c
 | [],_,_=>rfl
 |t::a,l,c=>by show openK o b a ((l++c).flatMap _)=openK o b a (l.flatMap _)++openK o b a (c.flatMap _);rw[pe,K0 o b a]
inductive Sg where
 | at(n:Str) (k:Int)
 |is (n:Str)
def kR:Sg->D
 |.at n k=>.tuple [.str "at",.str n,.int k]
 |.is n=>.tuple [.str "is",.str n]
def Fz (th:P)(ws:List Str):Sg->Bool
 |.at n k=>decide (k<=look th n)
 |.is n=>decide (n∈ws)
inductive Ak where
 |so (s:Sg)
 |al (s:Sg)
inductive Rw5 where
 |op (o:Op)
 |wd (n:Str) (s:Sg)
 |fa (n:Str)
 |cl (n:Str) (a:Ak)
def pF (n:Str)(s:Sg)(ths:List P)(x:Rdg):Rdg:=(x.1,(ths.zip x.2).map λp=>p.2++if Fz p.1 p.2 s then[n]else[])
def kH (bk:Str->List Ru)(ths:List P)(l:List Rdg):Rw5->List Rdg
 |.op o=>z1n o (bk o.n) ths l
 |.wd n s=>l.map (pF n s ths)
 |.fa _=>l
 |.cl _ _=>l
def kI (bk:Str->List Ru)(ths:List P)(rows:List Rw5):List Rdg:=rows.foldl (kH bk ths) [([],ths.map λ_=>[])]
abbrev Th:=P×List Str
def wl (t:Th):D:=.list (t.2.map .str)
def kS (t:Th)(s:Sg):Bool:=Fz t.1 t.2 s
theorem zB:∀s,aL (kR s)=Z7
 |.at _ _=>rfl
 |.is _=>rfl
def kd:Sg->Str
 |.at _ _=>"at"
 |.is _=>"is"
theorem U0 (s:Sg):eR (kR s) (.int 0)=.ok (.str (kd s)):=by cases s<;>rfl
theorem z9n (h:ρ[i]?=Z9 (Z9 (g,.str a))):Tt [] Φ (.tv (.cmp .Eq (.var i) (.str b))) ρ (decide (a=b)):=aN (z0l (k:=decide (a=b)) (z02 h) cM.e (by show Res.ok (dV (.str a) (.str b))=_;rw[kP])).e rfl
theorem FA (s:Sg)(ht:PK t.1):vH [kR s,pk t.1,wl t]=.ok (.fr,.bool (kS t s)):=by
 refine eL ?_;refine eS (mL (v_ix (z02 rfl) z05.e (U0 s) rfl)) ?_;cases s with
 | «at» n j=>exact z0g (z6b (z9n rfl) (λ_=>z0g (z0s (z0l (z0m (z00 (z02 rfl) (z00 (v_ix (z02 rfl) z05.e rfl rfl).e z09)) rfl (z5z ht n) rfl).e (v_ix (z02 rfl) z05.e rfl rfl).e rfl))) λz=>(of_decide_eq_false z rfl).elim)
 |is n=>refine AL (z9n rfl) rfl ?_;refine z0g (z6b (z9n rfl) (λ_=>z0g (z0s (z0l (v_ix (z02 rfl) z05.e rfl rfl).e (z02 rfl) (Bh n t.2)))) λz=>(of_decide_eq_false z rfl).elim)
section
def jB:Ak->D
 |.so s=>.tuple [.str "some",kR s]
 |.al s=>.tuple [.str "all",kR s]
def K1 (ts:List Th):Ak->Bool
 |.so s=>ts.any λt=>kS t s
 |.al s=>ts.all λt=>kS t s
theorem Bi:∀s:Ak,aL (jB s)=Z7
 |.so s=>by show(Z7&&(aL (kR s)&&Z7))=Z7;rw[zB s];rfl
 |.al s=>by show(Z7&&(aL (kR s)&&Z7))=Z7;rw[zB s];rfl
def ka:Ak->Str
 |.so _=>"some"
 |.al _=>"all"
theorem U1 (s:Ak):eR (jB s) (.int 0)=.ok (.str (ka s)):=by cases s<;>rfl
theorem K2:∀a:List Th,zipD (a.map λt=>pk t.1) (a.map wl)=a.map λt=>.tuple [pk t.1,wl t]
 | []=>rfl
 |t::a=>by rw[br,br,zipD,K2 a];rfl
theorem FC {a:Type}(f:a->Bool):∀l:List a,allB (l.map λx=>ZT (f x))=Z9 (l.map f)
 | []=>rfl
 |x::l=>by show(allB (l.map λx=>ZT (f x))).map _=_;rw[FC f l];rfl
theorem U2 {a:Type}(f:a->Bool)(l:List a):aggD "any" Z7 (l.map λx=>ZT (f x))=.ok (.bool (l.any f)):=by show Res.eE ((allB (l.map λx=>ZT (f x))).map λbs=>ZT (bs.any id))=_;rw[FC];show Res.ok (ZT ((l.map f).any id))=_;rw[List.any_map];rfl
theorem U3 {α:Type}(f:α->Bool)(l:List α):aggD "all" Z7 (l.map λx=>ZT (f x))=.ok (.bool (l.all f)):=by show Res.eE ((allB (l.map λx=>ZT (f x))).map λbs=>ZT (bs.all id))=_;rw[FC];show Res.ok (ZT ((l.map f).all id))=_;rw[w5];rfl
theorem K3 (t:Th):dQ (.tp [i,j]) (gJ (.tuple [pk t.1,wl t]) .al,.tuple [pk t.1,wl t]) ρ=.ok ((ρ.set i (Z9 (.al,pk t.1))).set j (Z9 (.al,wl t))):=by
 have e:gJ (.tuple [pk t.1,wl t]) .al=.al:=by show(if(aL (pk t.1)&&(Z6&&Z7))=Z7 then G.fr else .al)=_;rw[Bool.false_and,Bool.and_false];rfl
 rw[e];show Res.eE (Z9 ((ρ.set i (Z9 (z1u (gJ (pk t.1) .al,pk t.1)))).set j (Z9 (z1u (gJ (wl t) .al,wl t)))))=_;rw[lT (eF _)];rfl
theorem K4 (b:Φ[0]?=Z9 F)(c:∀t,PK t.1->F [kR s,pk t.1,wl t]=.ok (.fr,.bool (kS t s))){a:List Th}(d:∀t∈a,PK t.1)(hl:a.length<=10)(g:eR x (.int 1)=.ok (kR s)):aF [] Φ (.comp 2 [0] N (.tp [0,1]) (.zip (.var 1) (.var 2)) .nil (.call 0 f (.cons (.ix (.var 2) (.int 1)) (.cons (.var 0) (.cons (.var 1) .nil))))) [Z9 (.od,x),Z9 (.od,.list (a.map λt=>pk t.1)),Z9 (.od,.list (a.map wl)),u]=.ok (.fr,.list (a.map λt=>.bool (kS t s))):=by have hw:=DI (Κ:=[]) (Φ:=Φ) (ρ:=[Z9 (.od,x),Z9 (.od,.list (a.map λt=>pk t.1)),Z9 (.od,.list (a.map wl)),u]) (z02 (i:=1) rfl) (z02 (i:=2) rfl) (sQ (by grind)) (sQ (by grind));rw[K2]at hw;have:=z1f (nt:=2) (js:=[0]) (N':=N) (tg:=.tp [0,1]) (elt:=.call 0 f (.cons (.ix (.var 2) (.int 1)) (.cons (.var 0) (.cons (.var 1) .nil)))) (λ_=>Z7) (λt=>.bool (kS t s)) hw rfl (λt=>[Z9 (.al,pk t.1),Z9 (.al,wl t),Z9 (.od,x)]) (λt _=>K3 t) (λ_ _=>oV) λt ht _=>z0m (z00 (v_ix (z02 rfl) z05.e g (zB s)).e (z00 (z02 rfl) (z00 (z02 rfl) z09))) b (c t (d t ht)) rfl;rw[fg.mpr (λ_ _=>rfl)]at this;exact this
variable {ts:List Th}
theorem U4 (b:∀t∈ts,PK t.1)(hl:ts.length<=10)(a:Ak):A' [jB a,.list (ts.map λt=>pk t.1),.list (ts.map wl)]=.ok (.fr,.bool (K1 ts a)):=by
 refine eL (eS (mL (v_ix (z02 rfl) z05.e (U1 a) rfl)) ?_);cases a with
 |so s=>exact z0g (z6b (z9n rfl) (λ_=>z0g (z0s (pW (w:=(Z7,ts.map λt=>.bool (kS t s))) (Ev.of (K4 rfl (λt ht=>FA s ht) b hl rfl)) rfl (U2 (λt=>kS t s) ts) rfl))) λz=>(of_decide_eq_false z rfl).elim)
 |al s=>exact AL (z9n rfl) rfl (z0g (z6b (z9n rfl) (λ_=>z0g (z0s (pW (w:=(Z7,ts.map λt=>.bool (kS t s))) (Ev.of (K4 rfl (λt ht=>FA s ht) b hl rfl)) rfl (U3 (λt=>kS t s) ts) rfl))) λz=>(of_decide_eq_false z rfl).elim))
end
open PySem.Spec PyProof.Rows L2
namespace L66
abbrev i1 (k:Int):W:=.pur (.int k)
abbrev a2 (a b:W):W:=.cons a (.cons b .nil)
abbrev a3 (a b c:W):W:=.cons a (a2 b c)
abbrev a4 (a b c d:W):W:=.cons a (a3 b c d)
abbrev K5:W:=.lc 1 [] ["words"] (.nm 0) Z6 (.ix (.raw 0) (i1 1)) .nil (.AW (.raw 0))
def ct:WS:=.seq (.asg 4 K5) (.seq (.ext (.pY (.raw 4) (.raw 2)) (.raw 3)) (.seq (.ret (.tup (.cons (.pur (.bin .Add (.ix (.var 0) (.int 0)) (.var 1))) (.cons (.raw 4) .nil)))) .nil))
abbrev K6:C:=.call 1 "binding" (.cons (.bin .Add (.var 1) (.comp 1 [5] ["entry","name"] (.nm 0) (.tv (.ix (.var 4) (.int 0))) (.tv (.cmp .Eq (.ix (.var 0) (.int 0)) (.var 1))) (.ix (.var 0) (.int 2)))) (.cons (.var 6) .nil))
abbrev K7 (s:Str):W:=.pur (.lst (.cons (.tup (.cons (.var 5) (.cons (.var 2) (.cons (.call 0 "fullest" (.cons (.var 6) (.cons (.str s) .nil))) .nil)))) .nil))
abbrev FD (e n:W):W:=.cal 0 (a4 (.raw 4) e (.raw 2) n)
def wy:WS:=.seq (.asg 5 (.pur (.ix (.var 0) (.int 1)))) (.seq (.asg 6 (.pur (.call 2 "case_of" (.cons (.var 0) (.cons (.var 3) (.cons (.ix (.ix (.var 4) (.int 1)) (.var 2)) .nil))))))
 (.seq (.asg 7 (.pur K6))
 (.seq (.ifS (.ti Z7 (.raw 7)) (.seq (.ret (.lst (.cons (FD (.pur (.lst .nil)) (.pur (.jO (.tv (.cmp .Eq (.ix (.var 7) (.int 0)) (.str "for"))) (.lst (.cons (.var 5) .nil)) (.lst .nil)))) .nil))) .nil) .nil)
 (.seq (.ret (.lst (a2 (FD (K7 "for") (.pur (.lst (.cons (.var 5) .nil)))) (FD (K7 "against") (.pur (.lst .nil)))))) .nil))))
abbrev U5:WS:=.seq (.gW 7 (.raw 3) (.seq (.ext (.raw 6) (.cal 0 (.cons (.raw 0) (a4 (.raw 1) (.raw 4) (.raw 5) (.raw 7))))) .nil)) (.seq (.asg 3 (.raw 6)) .nil)
def wo:WS:=.seq (.bC (.tp [4,5]) (.enum (.var 2)) (.seq (.asg 6 (.lst .nil)) U5)) (.seq (.ret (.raw 3)) .nil)
abbrev kn:C:=.comp 1 [0] ["thing","act"] (.nm 0) (.tv (.var 2)) .nil (.call 0 "of_facts" (.cons (.var 1) (.cons (.var 0) .nil)))
abbrev U6:W:=.cal 0 (a4 (.raw 5) (.pur (.mt "get" (.var 1) (.cons (.ix (.var 5) (.int 1)) (.cons (.lst .nil) .nil)))) (.raw 3) (.raw 4))
abbrev U7:W:=.pur (.comp 1 [5,3] ["reading","row","known"] (.nm 0) (.tv (.var 4)) .nil (.call 2 "with_word" (.cons (.var 1) (.cons (.var 2) (.cons (.var 0) .nil)))))
abbrev U8:WS:=.seq (.ifS (.tp (.tv (.cmp .Eq (.ix (.var 5) (.int 0)) (.str "word")))) (.seq (.asg 4 U7) .nil) (.seq (.ifS (.tp (.tv (.cmp .Eq (.ix (.var 5) (.int 0)) (.str "open")))) (.seq (.asg 4 U6) .nil) .nil) .nil)) .nil
def rg:WS:=.seq (.ifS (.tc .Gt (.pur (.call 1 "open_uses" (.cons (.var 0) (.cons (.bi "len" (.cons (.var 2) .nil)) .nil)))) (.gi 0)) (.seq (.nO "TooMuch") .nil) .nil)
 (.seq (.asg 3 (.pur kn))
 (.seq (.asg 4 (.lst (.cons (.tup (a2 (.lst .nil) (.pur (.comp 1 [] ["thing"] (.nm 0) (.tv (.var 3)) .nil (.lst .nil))))) .nil)))
 (.seq (.iR (.nm 5) (.raw 0) U8)
 (.seq (.ret (.raw 4)) .nil))))
def ao:WS:=.seq (.iR (.nm 2) (.raw 0) (.seq (.ifS (.tp (.and (.tv (.cmp .Eq (.ix (.var 2) (.int 0)) (.str "claim"))) (.tv (.cmp .Eq (.ix (.var 2) (.int 1)) (.var 1))))) (.seq (.ret (.pur (.ix (.var 2) (.int 2)))) .nil) .nil) .nil)) (.seq (.zb "Unknown" "name" (.raw 1)) .nil)
abbrev Bj (s:Str)(x:W):WS:=.seq (.ret (.tup (a2 (.pur (.str s)) x))) .nil
abbrev U9:WS:=.seq (.ifS (.tp (.tv (.call 1 "so" (.cons (.var 4) (.cons (.var 5) (.cons (.ix (.var 8) (.int 1)) .nil)))))) (.seq (.app (.raw 6) (.raw 8)) .nil) (.seq (.app (.raw 7) (.raw 8)) .nil)) .nil
abbrev zy:WS:=.seq (.ifS (.tp (.tv (.cmp .Eq (.var 7) (.lst .nil)))) (Bj "must" (.lst .nil)) .nil) (.seq (.ifS (.tp (.tv (.cmp .Eq (.var 6) (.lst .nil)))) (Bj "never" (.lst .nil)) .nil) (Bj "open" (.lst (a2 (.pY (.raw 6) (i1 0)) (.pY (.raw 7) (i1 0))))))
def st:WS:=.seq (.asg 4 (.cal 1 (a2 (.raw 0) (.raw 3)))) (.seq (.asg 5 (.pur kn)) (.seq (.asg 6 (.lst .nil)) (.seq (.asg 7 (.lst .nil)) (.seq (.gW 8 (.cal 0 (a3 (.raw 0) (.raw 1) (.raw 2))) U9) zy))))
abbrev rI (k:Int):WS:=.seq (.ret (.pur (.int k))) .nil
abbrev FE:C:=.comp 1 [] ["_law_thing"] (.nm 0) (.tv (.var 1)) .nil (.gB "sum" (.tv (.comp 2 [] ["_law_name_here","_law_count"] (.tp [0,1]) (.tv (.var 0)) .nil (.var 1))))
def ws:WS:=.seq (.asg 2 (.AX (.pur FE))) (.seq (.ifS (.tp (.tv (.cmp .Eq (.var 1) (.lst .nil)))) (rI 1) .nil) (.seq (.ifS (.tp (.and (.tv (.cmp .Eq (.ix (.var 0) (.int 2)) (.tup .nil))) (.tv (.cmp .Eq (.ix (.var 0) (.int 3)) (.tup .nil))))) (rI 2) .nil) (.seq (.ret (.pur (.bin .Add (.int 1) (.bi "len" (.cons (.var 2) .nil))))) .nil)))
abbrev rB:WS:=.seq (.za .bad) .nil
abbrev tI (m u:Bool)(h:WS):WS:=.seq (.ifS (.tp (.not (.tv (.jP Z7 "ValueError")))) rB .nil) (.seq (.ifS (.tp (.and (.tv (.jP u "Unknown")) (.not (.tv (.jP m "TooMuch"))))) h .nil) (.seq (.ret (.pur (.ix (.lst (.cons (.str "other") (.cons (.str "much") .nil))) (.bi "int" (.cons (.and (.jP m "TooMuch") (.not (.jP u "Unknown"))) .nil))))) .nil))
abbrev U':WS:=.seq (.ifS (.ti Z6 (.raw 3)) (.seq (.exp (.cal 0 (a3 (.raw 0) (.raw 1) (.raw 2)))) .nil) (.seq (.exp (.cal 1 (a4 (.raw 0) (.raw 1) (.raw 2) (.raw 3)))) .nil)) .nil
def rf:WS:=.seq (.qC U' (.hn "TooMuch" Z8 (tI Z7 Z6 rB) (.hn "Unknown" (Z9 "name") (tI Z6 Z7 (.seq (.ret (.bin .Add (.pur (.str "unknown ")) (.gA "name"))) .nil)) .nil)) 4 5) (.seq (.ret (.pur (.str ""))) .nil)
abbrev K8:C:=.comp 1 [1] ["_law_row","_law_name_here"] (.nm 0) (.tv (.var 0)) (.and (.tv (.cmp .Eq (.ix (.var 0) (.int 0)) (.str "claim"))) (.tv (.cmp .Eq (.ix (.var 0) (.int 1)) (.var 1)))) (.ix (.var 0) (.int 2))
def asg:WS:=.seq (.asg 2 (.pur K8)) (.seq (.qC (.seq (.asg 3 (.cal 0 (a2 (.raw 0) (.raw 1)))) .nil) (.hn "Unknown" (Z9 "name") (.seq (.ret (.and (.pur (.cmp .Eq (.var 2) (.lst .nil))) (.cmp .Eq (.gA "name") (.raw 1)))) .nil) .nil) 4 5) (.seq (.ret (.pur (.cmp .Eq (.var 2) (.lst (.cons (.var 3) .nil))))) .nil))
abbrev ca (k:Int):C:=.call 2 "_law_cell_at" (.cons (.var 0) (.cons (.int k) .nil))
abbrev mx (a b:C):C:=.call 1 "_law_mix" (.cons a (.cons b .nil))
abbrev sm (i:Nat):C:=.gB "sum" (.tv (.sl (.var i) .nil (.tv (.int 63))))
abbrev K9:C:=.comp 1 [0] ["_law_k","_law_script"] (.nm 0) (.iM (.cons (.int 10) .nil)) .nil (.call 3 "_law_name" (.cons (mx (sm 1) (.int 1)) (.cons (.var 0) .nil)))
abbrev K':C:=.comp 1 [] ["_law_row"] (.nm 0) (.tv (.var 2)) (.tv (.cmp .Eq (.ix (.var 0) (.int 0)) (.str "open"))) (.var 0)
abbrev La:WS:=.bC (.nm 5) (.tv (.sl (.bin .Add (.var 0) (.lst (.cons (.int 0) (.cons (.int 1) (.cons (.int 2) (.cons (.int 3) (.cons (.int 4) (.cons (.int 5) .nil)))))))) (.tv (.int 2)) (.tv (.bin .Add (.int 2) (.bin .Mod (.bin .FloorDiv (ca 0) (.int 4)) (.int 7))))))
 (.seq (.asg 6 (.pur (.ix (.lst (.cons (.bin .Mod (.var 5) (.int 3)) (.cons (.bin .Mod (.var 5) (.bin .Add (.bin .Pow (.int 10) (.int 30)) (.int 1))) .nil))) (.bin .Mod (mx (.var 5) (.int 2)) (.int 2)))))
 (.seq (.app (.raw 4) (.pur (.gB "tuple" (.tv (.rep (.cons (.tup (.cons (.ix (.var 1) (.int 0)) (.cons (.var 6) .nil))) .nil) (.bi "int" (.cons (.cmp .Gt (.var 6) (.int 0)) .nil))))))) .nil))
abbrev Lb:C:=.bin .Add (.comp 1 [] ["_law_name_here"] (.nm 0) (.tv (.ix (.var 10) (.int 3))) .nil (.tup (.cons (.tup (.cons (.var 0) (.cons (.bin .Pow (.int 10) (.int 30)) .nil))) .nil))) (.lst (.cons (.tup .nil) .nil))
abbrev Lc:WS:=.bC (.tp [9,10]) (.enum (.var 3)) (.seq (.ifS (.tp (.tv (.cmp .Eq (.bin .Mod (mx (ca 1) (.bin .Add (.int 20) (.var 9))) (.int 3)) (.int 0))))
 (.seq (.asg 11 (.pur Lb)) (.seq (.put (.raw 7) (.pur (.ix (.var 10) (.int 1))) (.pur (.lst (.cons (.tup (.cons (.tup (.cons (.tup .nil) (.cons (.ix (.var 11) (.int 0)) .nil))) (.cons (.str "for") (.cons (.tup .nil) .nil)))) .nil)))) .nil))
 (.seq (.asg 8 (.bin .Mult (.raw 8) (.cal 4 (a2 (.raw 10) (.raw 4))))) .nil)) .nil)
abbrev rF:WS:=.seq (.ret (.pur (.bl Z6))) .nil
abbrev rfA (x:W):W:=.cal 0 (a4 (.raw 2) (.raw 7) (.raw 4) x)
abbrev FF:WS:=.seq (.asg 14 (.cal 2 (a4 (.raw 2) (.raw 7) (.raw 4) (.raw 12)))) (.seq (.ifS (.tp (.or (.not (.tv (.isT (.var 14) ["tuple"]))) (.tv (.cmp .NotIn (.ix (.var 14) (.int 0)) (.tup (.cons (.str "must") (.cons (.str "never") (.cons (.str "open") .nil)))))))) rF .nil) (.seq (.ret (.cmp .Eq (.len (.cal 3 (a3 (.raw 2) (.raw 7) (.raw 4)))) (.raw 8))) .nil))
abbrev Ld:WS:=.seq (.asg 13 (.pur (.str ""))) (.seq (.ifS (.tp (.tv (.cmp .Gt (.bin .Mult (.bi "len" (.cons (.var 3) .nil)) (.bi "len" (.cons (.var 4) .nil))) (.int 8)))) (.seq (.asg 13 (.pur (.str "much"))) .nil) .nil)
 (.seq (.ifS (.tc .NotEq (rfA (.pur .non)) (.raw 13)) rF .nil) (.seq (.ifS (.not (.wtr (.cal 1 (a2 (.raw 2) (.raw 12))))) rF .nil)
 (.seq (.ifS (.tp (.tv (.cmp .NotIn (.var 12) (.sl (.var 1) (.tv (.int 7)) (.tv (.int 9)))))) (.seq (.ret (.cmp .Eq (rfA (.raw 12)) (.pur (.bin .Add (.str "unknown ") (.var 12))))) .nil) .nil)
 (.seq (.ifS (.tp (.tv (.cmp .NotEq (.var 13) (.str "")))) (.seq (.ret (.cmp .Eq (rfA (.raw 12)) (.raw 13))) .nil) .nil) FF)))))
def lw:WS:=.seq (.asg 1 (.pur K9)) (.seq (.asg 2 (.pur (.call 0 "_law_rows" (.cons (.var 0) (.cons (.var 1) .nil))))) (.seq (.asg 3 (.pur K')) (.seq (.asg 4 (.lst .nil)) (.seq La (.seq (.asg 7 .eA) (.seq (.asg 8 (i1 1)) (.seq Lc (.seq (.asg 12 (.pur (.ix (.var 1) (.ix (.lst (.cons (.int 7) (.cons (.int 8) (.cons (.int 0) (.cons (.int 1) (.cons (.int 6) (.cons (.int 9) (.cons (.int 7) (.cons (.int 8) .nil))))))))) (.bin .Mod (mx (sm 0) (.int 3)) (.int 8)))))) Ld))))))))
end L66
def cT (H:Hp):List Addr->List (List Str)->Prop
 | [],[]=>True
 |w::ws,x::xs=>H w=Z9 (.lst (x.map V.str))/\cT H ws xs
 |_,_=>False
theorem cT.len:∀{ws:List Addr} {a:List (List Str)},cT H ws a->ws.length=a.length
 | [],[],_=>rfl
 |_::_,_::_,h=>congrArg (· +1) (cT.len h.2)
theorem cT.keep:∀{ws:List Addr} {xs:List (List Str)},cT H ws xs->(∀w∈ws,∀o,H w=Z9 o->H' w=Z9 o)->cT H' ws xs
 | [],[],_,_=>trivial
 |w::ws,_::_,h,k=>⟨k w (.head _) _ h.1,cT.keep h.2 λv hv=>k v (.tail _ hv)⟩
theorem cT.app:∀{ws:List Addr} {a:List (List Str)},cT H ws a->H w=Z9 (.lst (x.map V.str))->cT H (ws++[w]) (a++[x])
 | [],[],_,h=>⟨h,trivial⟩
 |_::_,_::_,h,k=>⟨h.1,cT.app h.2 k⟩
theorem cT.there:∀{ws:List Addr} {b:List (List Str)},cT H ws b->∀w∈ws,∃l,H w=Z9 (.lst l)
 | [],[],_,_,h=>by cases h
 |w::ws,x::b,h,v,a=>by
  rcases au.mp a with rfl|a
  .exact⟨_,h.1⟩
  .exact cT.there h.2 v a
theorem cT.set:∀{ws:List Addr} {xs:List (List Str)},cT H ws xs->ws.Nodup->∀w,ws[k]?=Z9 w->cT (upd H w (.lst (y.map V.str))) ws (xs.set k y)
 | [],[],_,_,_,e=>by cases e
 |w::ws,x::xs,h,nd,v,e=>by
  obtain⟨n1,n2⟩:=cz.mp nd;cases k with
  |zero=>cases e;exact⟨aT,cT.keep h.2 λu hu o e=>by rw[aB (λz=>by rw[z]at hu;exact n1 hu)];exact e⟩
  |succ k=>have e:ws[k]?=Z9 v:=e;have hv:=bt e;exact⟨by rw[aB (λz=>by rw[<-z]at hv;exact n1 hv)];exact h.1,cT.set h.2 n2 v e⟩
theorem cT.at {k:Nat}:∀{ws:List Addr} {xs:List (List Str)},cT H ws xs->∀w,ws[k]?=Z9 w->∃x,xs[k]?=Z9 x/\H w=Z9 (.lst (x.map V.str))
 | [],[],_,_,e=>by cases e
 |w::ws,x::xs,h,v,e=>by
  cases k with
  |zero=>cases e;exact⟨x,rfl,h.1⟩
  |succ k=>exact cT.at h.2 v e
def dP (x:List Str):D:=.list (x.map .str)
def Bl (hs:List (List Str)):Prop:=∀x∈hs,∀s∈x,ZY s=Z7
theorem Le {K:Z5}:∀{x:List Str},(∀s∈x,ZY s=Z7)->aD K H B (x.map V.str) (x.map .str)
 | [],_=>rfl
 |s::x,h=>⟨.str s,x.map V.str,rfl,⟨rfl,h s (.head _)⟩,Le λt ht=>h t (.tail _ ht)⟩
theorem zq2 {K:Z5}{O:Type}{L:List O}{e:O->D}{f:O->List Str}{g:TG}{tc:TT}{X:TE}{I:L2.St->L2.St}{Q:VK}(wk:Walk K J B A (L.map e))
  (one:∀a∈L,∀v s (N:Hp->Prop) M,Same A s->Rep K s B v (e a)->(∀p n,Same s n->s p=Z8->n p=Z9 (.lst ((f a).map V.str))->M (.ref p) n)->g v (I σ) s λj R=>fV (I σ) j/\tc j R λb F=>if b=Z7 then X j F M else N F)
  (q:∀l ws n,A l=Z8->Same A n->n l=Z9 (.lst (ws.map .ref))->(∀w∈ws,A w=Z8)->(l::ws).Nodup->cT n ws (L.map f)->Q (.ref l) n):
  ∀l,A l=Z8->∃P:Nat->Nat->List V->Hp->Prop,(∃m,P 0 m [] (upd A l (.lst [])))/\∀i m c k,P i m c k->(J.stop i k/\Q (.ref l) k)\/(J.go i k/\c.length<bh/\∃N:List V->Hp->Prop,(∀t n,N t n->∃Y,Y<m/\P (i+1) Y t n)/\∀x s,J.gG i k x s->g x (I σ) s λj R=>fV (I σ) j/\tc j R λb F=>if b=Z7 then X j F λy Z=>Z l=Z9 (.lst c)/\N (c++[y]) (upd Z l (.lst (c++[y])))else N c F):=by
 intro l hl
 let P:Nat->Nat->List V->Hp->Prop:=λi m c k=>m=L.length-i/\i<=L.length/\Same A k/\k l=Z9 (.lst c)/\∃ws,c=ws.map .ref/\(∀w∈ws,A w=Z8)/\(l::ws).Nodup/\cT k ws ((L.take i).map f)
 refine⟨P,⟨_,rfl,cy _,Same.upd hl,aT,[],rfl,nofun,cz.mpr ⟨nofun,gy⟩,trivial⟩,?_⟩
 rintro i m c k ⟨rfl,hi,C,u,ws,rfl,wn,nd,G⟩
 have ll:(L.map e).length=L.length:=ae ..;by_cases r:i<L.length
 .have S:(ws.map V.ref).length<bh:=by
   have h1:=G.len;have h2:=wk.len;rw[ae,g9]at h1;rw[ae];omega
  have tk:L.take (i+1)=L.take i++[L[i]]:=by rw[km,am r];rfl
  refine .inr ⟨wk.go k (Kp.of C) i (ll▸r),S,P (i+1) (L.length-(i+1)),λt n w=>⟨_,by omega,w⟩,λx s hy=>?_⟩;obtain⟨E,d,hd,rx⟩:=wk.gG k (Kp.of C) i x s (ll▸r) hy;rw[ar,am r]at hd;cases hd;refine one L[i] (ig r) x s _ _ (C.trans E) rx λp n T H ep=>?_;have pl:p≠l:=λz=>by rw[z,E _ _ u]at H;cases H
  have pw:∀w∈ws,w≠p:=λw h z=>by obtain⟨y,ey⟩:=G.there w h;rw[<-z,E _ _ ey]at H;cases H
  obtain⟨n1,n2⟩:=cz.mp nd;refine⟨(T _ _ (E _ _ u)),rfl,r,λb o eb=>?_,aT,ws++[p],by rw[cf];rfl,λw h=>?_,?_,?_⟩
  .rw[aB (dE eb hl)];exact T b o (E b o (C b o eb))
  .rcases bw.mp h with h|h
   .exact wn w h
   .rw[ag.mp h];exact(C.trans E).none H
  .rw[<-rj]
   exact mz.mpr ⟨nd,cz.mpr ⟨nofun,gy⟩,λa ha b hb=>by
    rw[ag.mp hb];rcases au.mp ha with rfl|ha
    .exact λz=>pl z.symm
    .exact pw a ha⟩
  .rw[tk,cf];refine cT.app (cT.keep G λw h o e=>?_) ?_
   .rw[aB (λz=>by rw[z]at h;exact n1 h)];exact T _ _ (E _ _ e)
   .rw[aB pl];exact ep
 .have U:i=L.length:=by omega
  subst U;refine .inl ⟨by rw[<-ll];exact wk.stop k (Kp.of C),q l ws k hl C u wn nd ?_⟩;rw[List.take_length]at G;exact G
inductive Sl (K:Z5)(H:Hp):L2.St->Rho->Prop where
 |nil:Sl K H [] []
 |no {o:Option V} {σ:L2.St} {ρ:Rho} (t:Sl K H σ ρ):Sl K H (o::σ) (Z8::ρ)
 |da {v:V} {d:D} {B:Ad->Prop} {σ:L2.St} {ρ:Rho} (r:Rep K H B v d) (t:Sl K H σ ρ):Sl K H (Z9 v::σ) (Z9 (.od,d)::ρ)
theorem Sl.len {K:Z5}(s:Sl K H σ ρ):σ.length=ρ.length:=by
 induction s with
 |nil=>rfl
 |no t a=>rw[bu,bu,a]
 |da r t a=>rw[bu,bu,a]
theorem Sl.at {K:Z5}(s:Sl K H σ ρ):∀(i:Nat) g d,ρ[i]?=Z9 (Z9 (g,d))->g=G.od/\∃v B,σ[i]?=Z9 (Z9 v)/\Rep K H B v d:=by
 induction s with
 |nil=>intro i g d e;cases e
 |no t a=>
  intro i g d e;cases i with
  |zero=>cases e
  |succ i=>exact a i g d e
 |da r t a=>
  intro i g d e;cases i with
  |zero=>cases e;exact⟨rfl,_,_,rfl,r⟩
  |succ i=>exact a i g d e
theorem Sl.so {K:Z5}(s:Sl K H a b):StOk K (F0 H) H a b:=A9 s.len s.at
theorem Lf {K:Z5}(tl:L2.St):Sl K H tl (bo tl.length Z8):=by
 induction tl with
 |nil=>exact .nil
 |cons o tl a=>exact .no a
theorem eq_self (h:aR 40 d=Z7):cmpD .Eq d d=.ok true:=by show(if(aR 40 d&&aR 40 d)=Z7 then Res.ok (dV d d)else Res.no)=_;rw[h,ya (show(Z7&&Z7)=Z7 from rfl),show dV d d=Z7 from Kl d 40 h]
theorem eD (a:Z.Κ=[])(b:Z.Φ=Φ)(s:Sl Z.K H g ρ)(e:Ev [] Φ c ρ d)(q:∀v f,Same H f->Rep Z.K f AnyB v d->Q v f):wE Z (.pur c) g H Q:=by obtain⟨h,e⟩:=e;exact Ug s.so (by rw[a,b];exact e) q
theorem fK (a:Z.Κ=[])(d:Z.Φ=Φ)(s:Sl Z.K H g ρ)(e:Tt [] Φ c ρ b)(q:∀f,Same H f->R b f):wT Z (.tp c) g H R:=Uh s.so (by rw[a,d];exact e) q
theorem Sl.qL {K:Z5}(t:Sl K H a ρ):Sl K H (Z9 (.int i)::a) (Z9 (.od,.int i)::ρ):=.da (B:=AnyB) (d:=.int i) rfl t
theorem z86 (I:Addr->Nat->L2.St->Hp->Prop)(j:∀R,(∀a h,SqL Z.K h a d->I a 0 s h->R (.ref a) h)->wE Z u s H R)(x:∀a k c e,I a k c e->SqL Z.K e a d)
  (one:∀a k v c e,d[k]?=Z9 v->I a k c e->∀l,l.rt=t.rt->(∀hS n,I a (k+1) hS n->l.nx hS n)->tDG Z.K (.nm i) v c e (wS Z b l)) (q:∀a c e,I a d.length c e->t.nx c e):wS Z (.iR (.nm i) u b) t s H:=by
 refine j _ λa h z i1=>⟨a,rfl,⟨d,z⟩,λk m c e=>m=d.length-k/\k<=d.length/\I a k c e,⟨_,rfl,cy _,i1⟩,?_⟩
 rintro k m c e ⟨rfl,hk,o⟩
 have hs:=x a k c e o;by_cases f:k<d.length
 .refine .inr ⟨⟨d,d[k],hs,am f⟩,λg p=>d.length-(k+1)=d.length-(k+1)/\k+1<=d.length/\I a (k+1) g p,λg p w=>⟨_,by omega,w⟩,λy p r=>?_⟩;obtain⟨A,r⟩:=r;rw[A];exact one a k y c e (r _ hs) o _ rfl λhS n w=>⟨rfl,f,w⟩
 .have :k=d.length:=by omega
  subst this;exact .inl ⟨⟨d,hs,ai _⟩,q a c e o⟩
theorem SqL.same {K:Z5}(h:SqL K H a b)(s:Same H c):SqL K c a b:=by
 rcases h with(h|⟨o,h⟩)|h
 .exact .inl (.inl (s _ _ h))
 .exact .inl (.inr ⟨o,s _ _ h⟩)
 .exact .inr h
theorem Lg {b:L2.St}(d:a.length=b.length)(e:a[i]?=Z9 (Z9 w))(r:∀j,j≠i->a[j]?=b[j]?):a=b.set i (Z9 w):=by
 refine j7 λj=>?_;by_cases c:j=i
 .subst c;rw[e,dm (d▸(ba.mp e).1)]
 .rw[r j c,df (Ne.symm c)]
theorem FG {K:Z5}(r:Rep K H B v d)(b:i<a.length)(q:∀w,Rep K H AnyB w d->Q (a.set i (Z9 w)) H):tDG K (.nm i) v a H Q:=znl r b λc w f e g rest=>by rw[Lg f e rest];exact q w g
section
variable {Z:Wc}{Φ:List Fn}{D0:Ends}{σ:L2.St}{ρ:Rho}{H:Hp}{t:Tg}{it:C}{b:WS}{g:G}{ds:List D}
theorem zau (v:Z.Κ=[])(x:Z.Φ=Φ)(sl:Sl Z.K H E F)(ev:evW [] Φ it F=.ok (g,i))(M:Hp->Hp->Prop)(N:∀a,M a a)(O:∀a h j,M a h->M h j->M a j)(ms:∀a h,Same a h->M a h)
  (mk:∀a h,Same H a->M a h->∀b o,a b=Z9 o->(BG (F0 H) H g (Z9 b)/\¬nw a (Z9 b)\/Fix o)->h b=Z9 o) (I:Nat->L2.St->Hp->Prop) (P:∀a,Same H a->I 0 E a)
  (one:∀k y d c f h A,i[k]?=Z9 d->I k c f->Same f h->Rep Z.K h AnyB y d->A.rt=D0.rt->(∀l j,I (k+1) l j->M f j->A.nx l j)->tDG Z.K t y c h (wS Z b A))
  (q:∀c f,I i.length c f->D0.nx c f):wS Z (.bC t it b) D0 E H:=by
 refine⟨F,F0 H,(g,i),sl.so,by rw[v,x];exact ev,λJ B a G Q C=>?_⟩;have kp:∀f,M a f->Kp B a f:=λf m b o e z=>mk a f G m b o e (z.imp (λz=>Q _ z) id);refine⟨λk n c f=>n=i.length-k/\k<=i.length/\M a f/\I k c f,⟨_,rfl,cy _,N _,P a G⟩,?_⟩
 rintro k n c f ⟨rfl,V,u,L⟩
 by_cases p:k<i.length
 .refine .inr ⟨C.go f (kp _ u) k p,λs h=>k+1<=i.length/\M a h/\I (k+1) s h,λs h w=>⟨i.length-(k+1),by omega,rfl,w⟩,λy h R=>?_⟩;obtain⟨S,d,e,r⟩:=C.gG f (kp _ u) k y h p R;exact one k y d c f h _ e L S (r.weak λ_ _=>trivial) rfl λl j T U=>⟨p,O _ _ _ u U,T⟩
 .have D:k=i.length:=by omega
  subst D;exact .inl ⟨C.stop f (kp _ u),q c f L⟩
theorem zlq (j:Z.Κ=[])(l:Z.Φ=Φ)(sl:Sl Z.K H s ρ)(ev:evW [] Φ it ρ=.ok (g,u))(I:Nat->L2.St->Hp->Prop)(w:∀n,Same H n->I 0 s n)
  (one:∀k y d a c i p,u[k]?=Z9 d->I k a c->Same c i->Rep Z.K i AnyB y d->p.rt=v.rt->(∀f r,I (k+1) f r->Same c r->p.nx f r)->tDG Z.K t y a i (wS Z b p))
  (q:∀a c,I u.length a c->v.nx a c):wS Z (.bC t it b) v s H:=
 zau j l sl ev Same Same.refl (λ_ _ _=>Same.trans) (λ_ _ h=>h) (λn i _ m b o e _=>m b o e) I w one q
theorem zl8 (i:Z.Κ=[])(j:Z.Φ=Φ)(sl:Sl Z.K H u B)(ev:evW [] Φ it B=.ok (.fr,v))(T:Addr->Prop)(C:∀b,T b->∃o,H b=Z9 o/\¬Fix o)(I:Nat->L2.St->Hp->Prop)(D:∀g,Same H g->I 0 u g)
  (one:∀k y d a c f l,v[k]?=Z9 d->I k a c->Same c f->Rep Z.K f AnyB y d->l.rt=x.rt->(∀h p,I (k+1) h p->(∀b o,¬T b->c b=Z9 o->p b=Z9 o)->l.nx h p)->tDG Z.K t y a f (wS Z b l))
  (q:∀a c,I v.length a c->x.nx a c):wS Z (.bC t it b) x u H:=
 zau i j sl ev (λg f=>∀b o,¬T b->g b=Z9 o->f b=Z9 o) (λ_ _ _ _ e=>e) (λ_ _ _ E F b o n e=>F b o n (E b o n e)) (λ_ _ s b o _ e=>s b o e) (λg f s m b o e z=>m b o (λw=>by
  obtain⟨G,r,nf⟩:=C b w;have A:=s b G r;rw[e]at A;cases A;rcases z with z|z
  .have J:nw H (Z9 b):=z.1;have:H b=none:=J;rw[this]at r;cases r
  .exact nf z) e) I D one q
end
theorem Va (c:a.length=(Z8::b).length)(h:∀k,k≠0->a[k]?=(Z8::b)[k]?):fV (Z8::b) a:=⟨c.symm,λi v e=>by rw[h i (by rintro rfl;cases e)];exact e⟩
theorem Bm {K:Z5}:∀{a:List Str} {b:List V},aD K H B b (a.map ZX)->b=a.map V.str/\∀s∈a,ZY s=Z7
 | [],b,r=>⟨r,λ_ h=>nomatch h⟩
 |s::a,b,r=>by obtain⟨v,t,rfl,⟨rfl,ok⟩,r⟩:=r;obtain⟨rfl,h⟩:=Bm r;exact⟨rfl,λu hu=>(au.mp hu).elim (λe=>e▸ok) (h u)⟩
theorem dH (q:wE Z e a H λv H1=>wS Z b c (a.set i (Z9 v)) H1):wS Z (.seq (.asg i e) b) c a H:=q
theorem bG (q:wS Z a {c with nx:=wS Z b c} σ H):wS Z (.seq a b) c σ H:=q
theorem dC (q:wT Z c d H λk e=>if k=Z7 then wS Z a f d e else wS Z b f d e):wS Z (.ifS c a b) f d H:=q
theorem iD (q:wE Z e a H c.rt):wS Z (.seq (.ret e) b) c a H:=q
theorem bU (Z:Wc)(q:a.nx b H):wS Z .nil a b H:=q
def dA (e:En):D:=.tuple [.str e.1,.int e.2.1,cC e.2.2]
theorem Lh (e:En):aL (dA e)=true:=by show imms [.str e.1,.int e.2.1,cC e.2.2]=Z7;rw[imms,imms,imms,vM];rfl
def rdD (x:Rdg):D:=.tuple [.list (x.1.map dA),.list (x.2.map dP)]
theorem Vb (o:List En):imms (o.map dA)=true:=vL Lh o
theorem Li (q:wE Z o a H λx b=>tyV Z.K "list" x b/\wE Z v a b λy c=>zZ x [y] c λ_ d=>e.nx a d):wS Z (.ext o v) e a H:=q
theorem Lj {K:Z5}{k:Nat}(h:H p=Z9 (.lst a))(e:a[k]?=Z9 v)(hk:k<1000)(q:Q v H):uF K (.ref p) (.int k) H Q:=.inl ⟨p,a,k,v,rfl,rfl,SqL.of h,by unfold L2.cR L2.iV;have:k<a.length:=(ba.mp e).1;rw[ya (by omega),ya (by omega)];rw[d7];exact e,q⟩
theorem vQ (so:StOk Z.K (F0 H) H f b)(e:aF Z.Κ Z.Φ c b=.ok (.fr,d))(q:∀v a,Same H a->Rep Z.K a (nw H) v d->Q v a):wE Z (.pur c) f H Q:=⟨b,F0 H,(.fr,d),so,e,q⟩
theorem FH {K:Z5}(r:Rep K H' (Mi.nw H) v (.list ds)):∃p vs,v=.ref p/\H p=Z8/\H' p=Z9 (.lst vs)/\aD K H' (Mi.nw H) vs ds:=by
 obtain⟨p,vs,rfl,h,r⟩:=r;rcases h with⟨h,z⟩|⟨_,z⟩
 .exact⟨p,vs,rfl,z,h,r⟩
 .exact z.elim
theorem nw.wk (s:Same H b):∀a,Mi.nw b a->Mi.nw H a:=λ_ z=>nw.back s z
structure CtA (K:Z5)(H:Hp)(x:Rdg)(es:List En)(k:Nat)(ns:List Str)(v ve:V)(pn:Addr):Prop where
 rv:Rep K H AnyB v (rdD x)
 re:Rep K H AnyB ve (.list (es.map dA))
 rn:H pn=Z9 (.lst (ns.map V.str))
 on:∀s∈ns,ZY s=Z7
 hk:k<x.2.length
 hl:x.2.length<=8
 ho:x.1.length+es.length<=100
 hx:∀w∈x.2,w.length<=20
 hn:ns.length<=20
def spCt (K:Z5):Sp:=λvs H Q _=>∃x es,∃k:Nat,∃ns v ve pn,vs=[v,ve,.int k,.ref pn]/\CtA K H x es k ns v ve pn/\∀H' u,Same H H'->Rep K H' (Mi.nw H) u (rdD (x.1++es,x.2.set k (x.2.getD k []++ns)))->Q u H'
theorem cT.qM {K:Z5}:∀{ws:List Addr} {a:List (List Str)},cT H ws a->Bl a->(∀w∈ws,H0 w=Z8)->aD K H (Mi.nw H0) (ws.map .ref) (a.map dP)
 | [],[],_,_,_=>rfl
 |w::ws,x::a,h,o,n=>⟨.ref w,ws.map .ref,rfl,⟨w,_,rfl,.inl ⟨h.1,n w (.head _)⟩,Le (o x (.head _))⟩,cT.qM h.2 (λy b=>o y (.tail _ b)) λw c=>n w (.tail _ c)⟩
theorem Lk {K:Z5}:∀{a:List (List Str)} {c:List V},aD K H B c (a.map dP)->Bl a
 | [],_,_=>λ_ h=>by cases h
 |x::a,_,h=>by
  obtain⟨v,r,rfl,d,hr⟩:=h;intro y b;rcases au.mp b with rfl|b
  .obtain⟨p,c,_,_,rv⟩:=d;exact(Bm rv).2
  .exact Lk hr y b
section
variable {Z:Wc}{H:Hp}{D0:Ends}{v ve:V}{pn:Addr}{k:Nat}{x:Rdg}{es:List En}{ns:List Str}
theorem zoy (hκ:Z.Κ=[])(hφ:Z.Φ=[])(a:CtA Z.K H x es k ns v ve pn)(q:∀F u,Same H F->Rep Z.K F (Mi.nw H) u (rdD (x.1++es,x.2.set k (x.2.getD k []++ns)))->D0.rt u F):
  wS Z L66.ct D0 [Z9 v,Z9 ve,Z9 (.int k),Z9 (.ref pn),Z8] H:=by
 obtain⟨o,hs⟩:=x;have hl:hs.length<=8:=a.hl;have ho:o.length+es.length<=100:=a.ho;have ok:Bl hs:=by obtain⟨_,_,_,_,_,_,_,_,_,_,_,⟨_,_,_,_,r⟩,_⟩:=a.rv;exact Lk r
 have cl:∀Q,(∀l ws c,H l=Z8->Same H c->c l=Z9 (.lst (ws.map .ref))->(∀w∈ws,H w=Z8)->(l::ws).Nodup->cT c ws (hs.map id)->Q (.ref l) c)->wE Z L66.K5 [Z9 v,Z9 ve,Z9 (.int k),Z9 (.ref pn),Z8] H Q:=λQ kq=>by
  refine Ul (Ui (aQ rfl (E3 λH0 C=>Ud (a.rv.same C λ_ z=>z) rfl λw G=>⟨AnyB,.list (hs.map dP),hs.map dP,G,rfl,λJ wk=>?_⟩)));refine zq2 wk (λa ha u I N M U ru hM=>?_) λl ws c d s1 D E nd hw=>kq l ws c (C.none d) (C.trans s1) D (λw h=>C.none (E w h)) nd hw;refine znl (σ:=[Z8]) ru (by decide) λσ' W i e0 L rest=>⟨Va i rest,?_⟩;refine⟨W,e0,AnyB,W,dP a,Z7,a.map .str,dP a,rfl,L,rfl,rfl,λy H4 s4 O=>?_⟩;obtain⟨p,vs,rfl,j,P⟩:=O;obtain⟨rfl,_⟩:=Bm P;rcases j with⟨j,z⟩|⟨_,z⟩
  .refine hM p H4 s4 ?_ j;rcases z with z|⟨z,_⟩
   .exact z
   .rw[vA]at z;cases z
  .rcases z with z|⟨z,_⟩
   .exact z.elim
   .rw[vA]at z;cases z
 refine dH (cl _ λl ws c d m D E nd hw=>?_);rw[t9]at hw;have R:=hw.len;obtain⟨n1,n2⟩:=cz.mp nd;have f:k<ws.length:=R▸a.hk;have S:=am f;obtain⟨x,ex,n⟩:=hw.at _ S;refine bG (Li (Kk (aQ rfl (aQ rfl (Lj D (v:=.ref ws[k]) (by rw[ar,S];rfl) (by omega) ⟨.inl ⟨rfl,_,SqL.of n⟩,aQ rfl ⟨ws[k],pn,x.map V.str,ns.map V.str,rfl,rfl,n,m _ _ a.rn,?_,?_⟩⟩)))))
 .rw[ae,ae,dw];have:=a.hx x (bt ex);have:=a.hn;omega
 rw[<-cf];have t:=hw.set (y:=x++ns) n2 _ S;have lw:l≠ws[k]:=λz=>n1 (z▸ig f);have X:upd c ws[k] (.lst ((x++ns).map V.str)) l=Z9 (.lst (ws.map .ref)):=aB lw▸D;have A:Same H (upd c ws[k] (.lst ((x++ns).map V.str))):=λb ob e=>by rw[aB λz=>by have:=E _ (ig f);rw[<-z,e]at this;cases this];exact m b ob e
 have pS:Bl (hs.set k (x++ns)):=λy T s B=>by
  rcases lj T with T|rfl
  .exact ok y T s B
  .rcases bw.mp B with z|z
   .exact ok x (bt ex) s z
   .exact a.on s z
 generalize upd c ws[k] (.lst ((x++ns).map V.str))=H2 at t X A ⊢;have sl:Sl Z.K H2 [Z9 v,Z9 ve,Z9 (.int k),Z9 (.ref pn),Z9 (.ref l)] [Z9 (.od,rdD (o,hs)),Z9 (.od,.list (es.map dA)),Z8,Z8,Z8]:=.da (a.rv.same A λ_ z=>z) (.da (a.re.same A λ_ z=>z) (.no (.no (.no .nil))));have ee:aF Z.Κ Z.Φ (.bin .Add (.ix (.var 0) (.int 0)) (.var 1)) [Z9 (.od,rdD (o,hs)),Z9 (.od,.list (es.map dA)),Z8,Z8,Z8]=.ok (.fr,.list ((o++es).map dA)):=by rw[cf];exact sM (Ev.of rfl) (z02 rfl) (add_list (by grind)) (cf▸Vb _)
 refine iD (E5 (aV (vQ sl.so ee λy I U O=>aV (aQ rfl (dN ⟨by rw[dw];simp,λp j=>?_⟩)))));have uD:Same I (upd I p (.tup [y,.ref l])):=Same.upd j;have g:=U.trans uD;rw[show(o,hs).2.getD k []=x from(by rw[az,ex];rfl)]at q;refine q _ _ (A.trans g) ⟨p,_,rfl,bN.of aT,y,_,rfl,(O.same uD λ_ z=>z).weak (nw.wk A),.ref l,_,rfl,⟨l,ws.map .ref,rfl,.inl ⟨g _ _ X,d⟩,?_⟩,rfl⟩;exact cT.qM (t.keep λw _=>g w) pS E
end
abbrev Φy:List Fn:=[E8,E7,Ba]
theorem Vc (s:Bool):decide (sd s=("for":Str))=s:=by cases s<;>rfl
theorem FI {b:Type}(m:b->D){a:List b}(h:k<a.length):eR (.list (a.map m)) (.int k)=.ok (m a[k]):=by rw[Ft m a[k] (by omega) (by omega)];rw[d7,az,am h];rfl
theorem tJ (ha:Ev Κ Φ a ρ x)(hb:Ev Κ Φ b ρ y)(h:eR x y=.ok d):Ev Κ Φ (.ix a b) ρ d:=by obtain⟨c,ha⟩:=ha;obtain⟨e,hb⟩:=hb;exact⟨gJ d c,by rw[sJ,ha,Res.aC,hb,Res.aC];dsimp only;rw[h,Res.aC]⟩
theorem FJ (so:StOk Z.K (F0 H) H d f)(e:aF Z.Κ Z.Φ c f=.ok (.fr,dP ns))(q:∀p a,Same H a->a p=Z9 (.lst (ns.map V.str))->Q (.ref p) a):wE Z (.pur c) d H Q:=vQ so e λv a s r=>by obtain⟨p,h,rfl,_,g,b⟩:=FH r;obtain⟨rfl,_⟩:=Bm b;exact q p a s g
theorem iE (h:Z.fn[j]?=Z9 a)(q:wA Z as b H λc d=>a (c++[]) d Q Z.E):wE Z (.cal j as) b H Q:=by show(match Z.fn[j]? with|some a=>uC a [] Z.E (wA Z as)|none=>mM) b H Q;rw[h];exact q
structure WyA (K:Z5)(H:Hp)(o:Op)(rs:List Ru)(th:P)(k:Nat)(x:Rdg)(vr vb vt v:V):Prop where
 rr:Rep K H AnyB vr (opD o)
 rb:Rep K H AnyB vb (.list (rs.map cC))
 rt:Rep K H AnyB vt (pk th)
 rv:Rep K H AnyB v (rdD x)
 ht:PK th
 hk:k<x.2.length
 hl:x.2.length<=8
 ho:x.1.length<=20
 hr:rs.length<=20
 hx:∀w∈x.2,w.length<=18
def spWy (K:Z5):Sp:=λvs H Q _=>∃o rs th,∃k:Nat,∃x vr vb vt v,vs=[vr,vb,.int k,vt,v]/\WyA K H o rs th k x vr vb vt v/\∀H' u,Same H H'->Rep K H' (Mi.nw H) u (.list ((dZ o rs k th x).map rdD))->Q u H'
theorem Vd (o:Op)(b:Bool):∀s∈ho o b,ZY s=true:=λs hs=>by
 cases b with
 |false=>cases hs
 |true=>rw[ag.mp hs];exact o.so
section
variable {Z:Wc}{H:Hp}{D0:Ends}{o:Op}{rs:List Ru}{th:P}{c:Cs}{k:Nat}{x:Rdg}{vr vb vt v:V}
theorem Ve (hr:rs.length<=20)(hx:x.1.length<=20)(h1:ρ[1]?=Z9 (Z9 (.od,.list (rs.map cC))))(h4:ρ[4]?=Z9 (Z9 (.od,rdD x)))(h5:bW (ρ.getD 5 Z8)=Z9 (.od,.str o.n))(h6:ρ[6]?=Z9 (Z9 (.od,cD c))):∃kk,Vv [] Φy L66.K6 ρ (qH kk (dO eT iS (rs++(x.1.filter λe=>decide (e.1=o.n)).map (·.2.2)) c)):=by have hc:=z1f (Κ:=[]) (Φ:=Φy) (nt:=1) (js:=[5]) (N':=["entry","name"]) (it:=.tv (.ix (.var 4) (.int 0))) (cond:=.tv (.cmp .Eq (.ix (.var 0) (.int 0)) (.var 1))) (elt:=.ix (.var 0) (.int 2)) (λe=>decide (e.1=o.n)) (λe=>cC e.2.2) (bR (by rw[sJ,mK];rw[h4];rfl) rfl) rfl (λe=>[Z9 (.al,dA e),Z9 (.od,.str o.n)]) (λe _=>by show dQ (.nm 0) _ [Z8,bW (ρ.getD 5 Z8)]=_;rw[h5];exact pD (Lh e)) (λe _=>aN (z0l (k:=decide (e.1=o.n)) (v_ix (z02 rfl) z05.e rfl rfl).e (z02 rfl) (by show Res.ok _=_;rw[kP])).e rfl) λe _ _=>v_ix (z02 rfl) z05.e rfl (vM _);rw[show((x.1.filter λe=>decide (e.1=o.n)).map λe=>cC e.2.2)=((x.1.filter λe=>decide (e.1=o.n)).map (·.2.2)).map cC by rw[dh];rfl]at hc;have fl:=j6 (λe:En=>decide (e.1=o.n)) x.1;have ha:=sM (z02 h1) (Ev.of hc) (add_list (by grind)) (cf▸vL vM _);rw[<-cf]at ha;obtain⟨kk,hb⟩:=UO (rs:=rs++(x.1.filter λe=>decide (e.1=o.n)).map (·.2.2)) (by grind);exact⟨kk,z0m (z00 (Ev.of ha) (z00 (z02 h6) z09)) rfl hb (UL _ _)⟩
theorem zri (hκ:Z.Κ=[])(hφ:Z.Φ=Φy)(f0:Z.fn[0]?=Z9 (spCt Z.K))(a:WyA Z.K H o rs th k x vr vb vt v)
  (q:∀H' u,Same H H'->Rep Z.K H' (Mi.nw H) u (.list ((dZ o rs k th x).map rdD))->D0.rt u H'):wS Z L66.wy D0 [Z9 vr,Z9 vb,Z9 (.int k),Z9 vt,Z9 v,Z8,Z8,Z8] H:=by
 have hk:=a.hk;have sl:∀{H':Hp} {o5 o6 o7:Option V} {r5 r6 r7:Option GD},Same H H'->Sl Z.K H' [o5,o6,o7] [r5,r6,r7]->Sl Z.K H' [Z9 vr,Z9 vb,Z9 (.int k),Z9 vt,Z9 v,o5,o6,o7] [Z9 (.od,opD o),Z9 (.od,.list (rs.map cC)),Z9 (.od,.int k),Z9 (.od,pk th),Z9 (.od,rdD x),r5,r6,r7]:=λ{H' o5 o6 o7 r5 r6 r7} s t=>.da (a.rr.same s λ_ z=>z) (.da (a.rb.same s λ_ z=>z) (.qL (.da (a.rt.same s λ_ z=>z) (.da (a.rv.same s λ_ z=>z) t))));refine dH (eD hκ hφ (sl (Same.refl H) (.no (.no (.no .nil)))) (v_ix (z02 rfl) z05.e rfl rfl).e λv5 H1 s1 r5=>?_);have ek:eR (.list (x.2.map dP)) (.int k)=.ok (dP (x.2.getD k [])):=by rw[FI dP hk,az,am hk];rfl
 refine dH (eD hκ hφ (sl s1 (.da r5 (.no (.no .nil)))) (d:=cD (cZ o th (x.2.getD k []))) (iA (z00 (z02 rfl) (z00 (z02 rfl) (z00 (tJ (tJ (z02 rfl) z05.e rfl) (z02 rfl) ek) z09))) rfl (UT o a.ht _)) λv6 H2 s2 r6=>?_);have Ll:=s1.trans s2;have Lm:=r5.same s2 λ_ z=>z;obtain⟨kk,eb⟩:=Ve a.hr a.ho (ρ:=[Z9 (.od,opD o),Z9 (.od,.list (rs.map cC)),Z9 (.od,.int k),Z9 (.od,pk th),Z9 (.od,rdD x),Z9 (.od,.str o.n),Z9 (.od,cD (cZ o th (x.2.getD k []))),Z8]) rfl rfl rfl rfl;refine dH (eD hκ hφ (sl Ll (.da Lm (.da r6 (.no .nil)))) eb.e λv7 H3 s3 r7=>?_);have zC:=Ll.trans s3;have Ln:=Lm.same s3 λ_ z=>z;have Lo:=r6.same s3 λ_ z=>z;have ct:∀{H4:Hp} {es:List En} {ve:V} {pn:Addr} {b:Bool} {Q:VK},Same H H4->Rep Z.K H4 AnyB ve (.list (es.map dA))->es.length<=2->H4 pn=Z9 (.lst ((ho o b).map V.str))->(∀H' u,Same H4 H'->Rep Z.K H' (Mi.nw H4) u (rdD (gD o k x es b))->Q u H')->spCt Z.K [v,ve,.int k,.ref pn] H4 Q Z.E:=λ{H4 es ve pn b Q} s4 re hl hn kq=>by refine⟨x,es,k,ho o b,v,ve,pn,rfl,⟨a.rv.same s4 λ_ z=>z,re,hn,Vd o b,hk,a.hl,?_,λw hw=>bp (a.hx w hw) (by decide),by cases b<;>(first|exact cy _|(show 1<=20;decide))⟩,kq⟩;have:=a.ho;omega
 have Lp:∀{H4:Hp} {us:List V} {ds:List Rdg},Same H H4->us.length<=2->aD Z.K H4 (Mi.nw H) us (ds.map rdD)->dZ o rs k th x=ds->wA Z .nil [Z9 vr,Z9 vb,Z9 (.int k),Z9 vt,Z9 v,Z9 v5,Z9 v6,Z9 v7] H4 λys H5=>(us++ys).length<=bh/\∀p,H5 p=Z8->D0.rt (.ref p) (upd H5 p (.lst (us++ys))):=λ{H4 us ds} s4 hl ru e=>by refine dN ⟨by rw[d6,dw];omega,λp hp=>?_⟩;rw[d6];have uP:Same H4 (upd H4 p (.lst us)):=Same.upd hp;refine q _ _ (s4.trans uP) ?_;rw[e];exact⟨p,us,rfl,.inl ⟨aT,s4.none hp⟩,ru.same uP λ_ z=>z⟩
 cases hb:dO eT iS (rs++(x.1.filter λe=>decide (e.1=o.n)).map (·.2.2)) (cZ o th (x.2.getD k []))with
 |some s=>
  have es:dZ o rs k th x=[gD o k x [] s]:=by unfold dZ;rw[hb]
  rw[hb]at r7;have nn:v7≠.non:=λz=>by subst z;obtain⟨p,vs,e,_⟩:=r7;cases e
  refine bG (dC (aQ (Z:=Z) rfl ⟨Z7,by rw[yg nn];rfl,?_⟩));have Lq:∀{H4:Hp},Same H3 H4->Sl Z.K H4 [Z9 vr,Z9 vb,Z9 (.int k),Z9 vt,Z9 v,Z9 v5,Z9 v6,Z9 v7] [Z9 (.od,opD o),Z9 (.od,.list (rs.map cC)),Z9 (.od,.int k),Z9 (.od,pk th),Z9 (.od,rdD x),Z9 (.od,.str o.n),Z9 (.od,cD (cZ o th (x.2.getD k []))),Z9 (.od,qH kk (Z9 s))]:=λ{H4} s4=>sl (zC.trans s4) (.da (Ln.same s4 λ_ z=>z) (.da (Lo.same s4 λ_ z=>z) (.da (r7.same s4 λ_ z=>z) .nil)));refine iD (mO (aV (iE f0 (aV (aQ rfl (aV (eD hκ hφ (Lq (Same.refl H3)) (d:=.list (([]:List En).map dA)) (Ev.of (eC aY)) λve H4 s4 re=>?_)))))));refine aV (aQ rfl (aV (FJ (ns:=ho o s) (Sl.so (Lq s4)) ?_ λpn H5 s5 en=>dN ?_)))
  .rw[hκ,hφ];have t7:Tt [] Φy (.tv (.cmp .Eq (.ix (.var 7) (.int 0)) (.str "for"))) [Z9 (.od,opD o),Z9 (.od,.list (rs.map cC)),Z9 (.od,.int k),Z9 (.od,pk th),Z9 (.od,rdD x),Z9 (.od,.str o.n),Z9 (.od,cD (cZ o th (x.2.getD k []))),Z9 (.od,qH kk (Z9 s))] s:=aN (z0l (v_ix (z02 rfl) z05.e rfl rfl).e cM.e (by show Res.ok _=_;rw[kP,Vc])).e rfl;rw[AJ,t7,Res.aC];cases s with
   |true=>exact eC (aJ (v_var rfl rfl) aY)
   |false=>exact eC aY
  .have pG:=zC.trans (s4.trans s5);refine ct pG (re.same s5 λ_ z=>z) (by decide) en λH6 u s6 ru=>?_;exact Lp (ds:=[_]) (pG.trans s6) (by show 1<=2;decide) ⟨u,[],rfl,ru.weak (nw.wk pG),rfl⟩ es
 |none=>
  have es:dZ o rs k th x=[gD o k x [(o.n,k,pE (cZ o th (x.2.getD k [])) Z7)] Z7,gD o k x [(o.n,k,pE (cZ o th (x.2.getD k [])) Z6)] Z6]:=by unfold dZ;rw[hb]
  rw[hb]at r7;have e7:=r7;subst e7;refine bG (dC (aQ (Z:=Z) rfl ⟨Z6,rfl,bU Z ?_⟩));have Bn:∀{H4:Hp},Same H3 H4->Sl Z.K H4 [Z9 vr,Z9 vb,Z9 (.int k),Z9 vt,Z9 v,Z9 v5,Z9 v6,Z9 .non] [Z9 (.od,opD o),Z9 (.od,.list (rs.map cC)),Z9 (.od,.int k),Z9 (.od,pk th),Z9 (.od,rdD x),Z9 (.od,.str o.n),Z9 (.od,cD (cZ o th (x.2.getD k []))),Z8]:=λ{H4} s4=>sl (zC.trans s4) (.da (Ln.same s4 λ_ z=>z) (.da (Lo.same s4 λ_ z=>z) (.no .nil)));have ev:∀b:Bool,Ev [] Φy (.lst (.cons (.tup (.cons (.var 5) (.cons (.var 2) (.cons (.call 0 "fullest" (.cons (.var 6) (.cons (.str (sd b)) .nil))) .nil)))) .nil)) [Z9 (.od,opD o),Z9 (.od,.list (rs.map cC)),Z9 (.od,.int k),Z9 (.od,pk th),Z9 (.od,rdD x),Z9 (.od,.str o.n),Z9 (.od,cD (cZ o th (x.2.getD k []))),Z8] (.list ([((o.n,k,pE (cZ o th (x.2.getD k [])) b):En)].map dA)):=λb=>Ev.of (eC (aJ (cY (aJ (v_var rfl rfl) (aJ (v_var rfl rfl) (aJ (z0m (z00 (z02 rfl) (z00 cM.e z09)) rfl (UP _ b) (vM _)) aY)))) aY));refine iD (mO (aV (iE f0 (aV (aQ rfl (aV (eD hκ hφ (Bn (Same.refl H3)) (ev Z7) λve H4 s4 re=>?_)))))));refine aV (aQ rfl (aV (FJ (ns:=ho o Z7) (Sl.so (Bn s4)) (by rw[hκ,hφ];exact eC (aJ (v_var rfl rfl) aY)) λpn H5 s5 en=>dN ?_)));have pG:=zC.trans (s4.trans s5);refine ct pG (re.same s5 λ_ z=>z) (by show 1<=2;decide) en λH6 u s6 ru=>?_;have vR:=s4.trans (s5.trans s6);refine aV (iE f0 (aV (aQ rfl (aV (eD hκ hφ (Bn vR) (ev Z6) λXO H7 s7 Vf=>?_)))));refine aV (aQ rfl (aV (FJ (ns:=ho o Z6) (Sl.so (Bn (vR.trans s7))) (by rw[hκ,hφ];exact eC aY) λXP H8 s8 Vg=>dN ?_)));have tK:=zC.trans (vR.trans (s7.trans s8));refine ct tK (Vf.same s8 λ_ z=>z) (by show 1<=2;decide) Vg λH9 u' s9 Vh=>?_;exact Lp (us:=[u,u']) (ds:=[_,_]) (tK.trans s9) (ai 2) ⟨u,[u'],rfl,(ru.weak (nw.wk pG)).same (s7.trans (s8.trans s9)) λ_ z=>z,⟨u',[],rfl,Vh.weak (nw.wk tK),rfl⟩⟩ es
end
structure Bd (n m c:Nat)(x:Rdg):Prop where
 n:x.2.length=n
 m:x.1.length<=m
 c:∀w∈x.2,w.length<=c
theorem Vi (o:Op)(b:Bool):(ho o b).length<=1:=by cases b<;>(first|exact cy _|exact ai 1)
theorem FK (h:Bd n m c x)(d:es.length<=1):Bd n (m+1) (c+1) (gD o k x es b):=by
 have hm:=h.m;refine⟨by unfold gD;rw[du];exact h.n,by unfold gD;rw[bq];omega,λw a=>?_⟩;have f:=Vi o b;rcases lj a with a|rfl
 .exact xj (h.c w a)
 .rw[bq]
  have:(x.2.getD k []).length<=c:=by
   rw[az];cases e:x.2[k]? with
   |none=>exact cy _
   |some w=>exact h.c w (bt e)
  omega
theorem Vj (h:Bd n m c x)(a:y∈dZ o b k th x):Bd n (m+1) (c+1) y:=by
 unfold dZ at a;split at a
 .rw[ag.mp a];exact FK h (cy _)
 .rcases au.mp a with rfl|a
  .exact FK h (ai 1)
  .rw[ag.mp a];exact FK h (ai 1)
theorem Ls (o:Op)(rs:List Ru)(k:Nat)(a:P)(x:Rdg):(dZ o rs k a x).length<=2:=by
 unfold dZ;split
 .show 1<=2;decide
 .exact ai 2
theorem FN (o:Op)(rs:List Ru)(k:Nat)(a:P):∀l:List Rdg,(l.flatMap (dZ o rs k a)).length<=2*l.length
 | []=>ai _
 |x::l=>by rw[iw,bq,bu];have:=Ls o rs k a x;have:=FN o rs k a l;omega
def kJ (o:Op)(rs:List Ru)(ths:List P)(l:List Rdg)(k:Nat):List Rdg:=openK o rs (ths.zipIdx.take k) l
theorem Lu (h:k<ths.length):kJ o rs ths l (k+1)=(kJ o rs ths l k).flatMap (dZ o rs k ths[k]):=by unfold kJ openK;rw[km,am (by rw[jd];exact h),uo];rw[j8,jo];rfl
theorem Lv:kJ o rs ths l ths.length=z1n o rs ths l:=by unfold kJ z1n;rw[fj (by rw[jd];exact ai _)]
theorem FO (h:∀x∈l,Bd n m c x):∀{k:Nat},k<=ths.length->(kJ o rs ths l k).length<=l.length*2 ^ k/\∀x∈kJ o rs ths l k,Bd n (m+k) (c+k) x
 |0,_=>⟨by rw[uc];exact ai _,h⟩
 |k+1,hk=>by
  obtain⟨d,a⟩:=FO (o:=o) (rs:=rs) (ths:=ths) h (k:=k) (by omega);rw[Lu (by omega)];refine⟨?_,λx hx=>?_⟩
  .have :=FN o rs k ths[k] (kJ o rs ths l k);rw[Nat.pow_succ,<-u8];omega
  .obtain⟨y,b,hx⟩:=ja.mp hx;exact Vj (a y b) hx
theorem zhe (I:Addr->Nat->L2.St->Hp->Prop)(l:∀R,(∀a j,SqL Z.K j a d->I a 0 t j->R (.ref a) j)->wE Z it t H R)(x:∀a k c e,I a k c e->SqL Z.K e a d)
  (one:∀a k v c e,d[k]?=Z9 v->I a k c e->∀n,n.rt=u.rt->(∀f o,I a (k+1) f o->n.nx f o)->wS Z b n (c.set i (Z9 v)) e) (q:∀a c e,I a d.length c e->u.nx c e):wS Z (.gW i it b) u t H:=by
 refine l _ λa j z A=>⟨a,rfl,⟨d,z⟩,λk m c e=>m=d.length-k/\k<=d.length/\I a k c e,⟨_,rfl,cy _,A⟩,?_⟩
 rintro k m c e ⟨rfl,C,p⟩
 have hs:=x a k c e p;by_cases g:k<d.length
 .refine .inr ⟨⟨d,d[k],hs,am g⟩,λh r=>d.length-(k+1)=d.length-(k+1)/\k+1<=d.length/\I a (k+1) h r,λh r w=>⟨_,by omega,w⟩,λy r s=>?_⟩;obtain⟨B,s⟩:=s;rw[B];exact one a k y c e (s _ hs) p _ rfl λf o w=>⟨rfl,g,w⟩
 .have :k=d.length:=by omega
  subst this;exact .inl ⟨⟨d,hs,ai _⟩,q a c e p⟩
theorem Lx {a:L2.St}(d:i≠j)(b:σ'.length=a.length)(c:σ'[i]?=Z9 (Z9 u))(e:σ'[j]?=Z9 (Z9 w))(r:∀k,k≠i->k≠j->σ'[k]?=a[k]?):σ'=(a.set i (Z9 u)).set j (Z9 w):=by
 refine Lg (by rw[du];exact b) e λk f=>?_;by_cases z:k=i
 .subst z;rw[c,dm (b▸(ba.mp c).1)]
 .rw[r k z f,df (Ne.symm z)]
def tL (T:List Addr):Ad->Prop
 |some a=>a∉T
 |none=>True
theorem aD.aB {K:Z5}(b:H p=Z9 (.lst h))(c:p∈T)(d:∀a,B a->tL T a)(r:aD K H B f g):aD K (upd H p (.lst i)) B f g:=
 aD.keep (λx j e z=>by
  rw[L2.aB λw=>by
   rcases z with z|z
   .exact d _ z (w▸c)
   .rw[w,b]at e;cases e;exact z]
  exact e) (λ_ z=>z) _ r
theorem FP (h:∀p∈T,∃o,H p=Z9 o)(a:Ad)(z:Mi.nw H a):tL T a:=by
 cases a with
 |none=>exact trivial
 |some a=>intro w;obtain⟨o,e⟩:=h a w;have z:H a=none:=z;rw[e]at z;cases z
theorem As {H:Hp}(h:H p=Z9 o):∀x∈[p],∃o,H x=Z9 o:=λx hx=>⟨o,(ag.mp hx)▸h⟩
structure WoA (K:Z5)(H:Hp)(o:Op)(rs:List Ru)(ths:List P)(l:List Rdg)(B:Ad->Prop)(vr vb vk vf:V):Prop where
 rr:Rep K H AnyB vr (opD o)
 rb:Rep K H AnyB vb (.list (rs.map cC))
 rk:Rep K H AnyB vk (.list (ths.map pk))
 rf:Rep K H B vf (.list (l.map rdD))
 ht:∀t∈ths,PK t
 hl:ths.length<=8
 hr:rs.length<=20
 hb:∀x∈l,Bd ths.length 9 9 x
 ll:l.length*2 ^ ths.length<=256
def spWo (K:Z5):Sp:=λvs H Q _=>∃o rs ths l B vr vb vk vf,vs=[vr,vb,vk,vf]/\WoA K H o rs ths l B vr vb vk vf/\∀H' u,Same H H'->Rep K H' (λa=>Mi.nw H a\/B a) u (.list ((z1n o rs ths l).map rdD))->Q u H'
theorem FQ {K:Z5}(r:Rep K H B v (.list ds)):∃a vs,v=.ref a/\SqL K H a vs/\aD K H B vs ds:=mH r
section
variable {Z:Wc}{H:Hp}{D0:Ends}{o:Op}{rs:List Ru}{ths:List P}{l:List Rdg}{B:Ad->Prop}{vr vb vk vf:V}
theorem zo1 (L:Z.Κ=[])(M:Z.Φ=[])(f0:Z.fn[0]?=Z9 (spWy Z.K))(a:WoA Z.K H o rs ths l B vr vb vk vf)
  (q:∀g u,Same H g->Rep Z.K g (λa=>Mi.nw H a\/B a) u (.list ((z1n o rs ths l).map rdD))->D0.rt u g):wS Z L66.wo D0 [Z9 vr,Z9 vb,Z9 vk,Z9 vf,Z8,Z8,Z8,Z8] H:=by
 have ev:evW [] [] (.enum (.var 2)) [Z8,Z8,Z9 (.od,.list (ths.map pk)),Z8,Z8,Z8,Z8,Z8]=.ok (.al,ths.zipIdx.map λx=>.tuple [.int x.2,pk x.1]):=by rw[Au (z02 rfl) (sQ (by rw[ae];have:=a.hl;omega)),AK]
 refine bG (zlq L M (.no (.no (.da a.rk (.no (.no (.no (.no (.no .nil)))))))) ev (λk f g=>Same H g/\∃u N O P C,f=[Z9 vr,Z9 vb,Z9 vk,Z9 u,N,O,P,C]/\Rep Z.K g (λa=>Mi.nw H a\/B a) u (.list ((kJ o rs ths l k).map rdD))) (λH1 s1=>⟨s1,vf,_,_,_,_,rfl,a.rf.same s1 λ_ z=>.inr z⟩) ?_ ?_)
 .rintro k y d f g H2 D2 hd ⟨Q,u,N,O,P,C,rfl,I⟩ S ry Bo nx
  rw[ar]at hd;obtain⟨x,hx,rfl⟩:=bc.mp hd;have hk:=by have:=(ba.mp hx).1;rw[jd]at this;exact this
  have ex:x=(ths[k],k):=by have:=(ba.mp hx).2;rw[uo,jo]at this;exact this.symm
  subst ex;refine zqe ry (by simp) (by simp) (by decide) λtZ w4 w D e4 e5 r4 T rest=>?_;have U:=Lx (by decide) D e4 e5 rest;subst U;cases r4;refine dH (mO (dN ⟨cy _,λA J=>?_⟩));have s:=Q.trans S;have XQ:=a.hl;obtain⟨lc,ly⟩:=FO a.hb (kr hk);have XS:=bp lc (bp (pf _ (oq (by decide) (kr hk))) a.ll);obtain⟨V,vs,rfl,E,F⟩:=FQ (I.same S λ_ z=>z);refine bG (zhe (λb j f g=>b=V/\Same H2 g/\∃ws C,f=[Z9 vr,Z9 vb,Z9 vk,Z9 (.ref V),Z9 (.int k),Z9 w,Z9 (.ref A),C]/\g A=Z9 (.lst ws)/\aD Z.K g (λa=>tL [A] a/\Mi.nw H a) ws ((((kJ o rs ths l k).take j).flatMap (dZ o rs k ths[k])).map rdD)) (λR hR=>aQ rfl (hR V _ (SqL.same E (Same.upd J)) ⟨rfl,Same.upd J,[],_,rfl,aT,rfl⟩)) (λb j f g h=>?_) ?_ ?_)
  .obtain⟨rfl,p,_⟩:=h;exact SqL.same E p
  .rintro b j v f H3 hv ⟨rfl,p,ws,W,rfl,i,rl⟩ D3 Vk X
   obtain⟨d,hd,rd⟩:=aD.eY F hv;rw[ar]at hd;obtain⟨y,hy,rfl⟩:=bc.mp hd;have pC:=ly y (bt hy);have t:=s.trans p;refine bG (Li (aQ rfl ⟨.inl ⟨rfl,_,SqL.of i⟩,iE f0 (aV (aQ rfl (aV (aQ rfl (aV (aQ rfl (aV (aQ rfl (aV (aQ rfl (dN ?_)))))))))))⟩));refine⟨o,rs,ths[k],k,y,vr,vb,w,v,rfl,⟨a.rr.same t λ_ z=>z,a.rb.same t λ_ z=>z,T.same p λ_ z=>z,(rd.same p λ_ z=>z).weak λ_ _=>trivial,a.ht _ (ig hk),by rw[pC.n];exact hk,by rw[pC.n];omega,by have:=pC.m;omega,a.hr,λw hw=>by have:=pC.c w hw;omega⟩,λH4 u4 Y r4=>?_⟩;obtain⟨p4,Vl,rfl,n4,Vm,G⟩:=FH r4;have r:=Y _ _ i;refine⟨A,p4,_,_,rfl,rfl,r,Vm,?_,?_⟩
   .rw[rl.length,G.length,ae,ae,dw];have h1:=FN o rs k ths[k] ((kJ o rs ths l k).take j);rw[g9]at h1;have h2:=Ls o rs k ths[k] y;omega
   refine X _ _ ⟨rfl,λb ob e=>?_,ws++Vl,_,rfl,aT,?_⟩
   .rw[aB λz=>by rw[z,J]at e;cases e];exact Y _ _ (p _ _ e)
   .have tk:(kJ o rs ths l k).take (j+1)=(kJ o rs ths l k).take j++[y]:=by rw[km,hy];rfl
    rw[tk,pe,cf,show[y].flatMap (dZ o rs k ths[k])=dZ o rs k ths[k] y from d6 _];exact aD.aB r (.head _) (λ_ z=>z.1) ((rl.same Y λ_ z=>z).append (G.weak λa z=>⟨FP (As i) a z,nw.wk t a z⟩))
  .rintro b f H3 ⟨rfl,p,ws,W,rfl,i,rl⟩
   refine dH (aQ rfl (bU Z ?_));refine nx _ _ ⟨s.trans p,.ref A,_,_,_,_,rfl,?_⟩ (S.trans p);rw[F.length,ae,fj (ai _),<-Lu hk]at rl;exact⟨A,ws,rfl,.inl ⟨i,.inl (s.none J)⟩,rl.weak λ_ z=>.inl z.2⟩
 .rintro f g ⟨Q,u,N,O,P,C,rfl,I⟩
  rw[ae,jd,Lv]at I;exact iD (aQ rfl (q g u Q I))
end
section
def FB (H:Hp)(B:Ad->Prop):Fm:=⟨λ_=>Z8,λa=>H a=Z8\/B (Z9 a),λ_=>Z8,B Z8⟩
inductive Sb (K:Z5)(H:Hp)(B:Ad->Prop):L2.St->Rho->Prop where
 |nil:Sb K H B [] []
 |no {o:Option V} {σ:L2.St} {ρ:Rho} (t:Sb K H B σ ρ):Sb K H B (o::σ) (Z8::ρ)
 |da {v:V} {d:D} {σ:L2.St} {ρ:Rho} (r:Rep K H B v d) (t:Sb K H B σ ρ):Sb K H B (Z9 v::σ) (Z9 (.al,d)::ρ)
variable {K:Z5}{H:Hp}{B:Ad->Prop}{σ:L2.St}{ρ:Rho}
theorem Sb.len (s:Sb K H B σ ρ):σ.length=ρ.length:=by
 induction s with
 |nil=>rfl
 |no _ a=>exact congrArg (· +1) a
 |da _ _ a=>exact congrArg (· +1) a
theorem Sb.at (s:Sb K H B σ ρ):∀(i:Nat) g d,ρ[i]?=Z9 (Z9 (g,d))->g=G.al/\∃v,σ[i]?=Z9 (Z9 v)/\Rep K H B v d:=by
 induction s with
 |nil=>intro i g d e;cases i<;>cases e
 |no _ ih=>
  intro i g d e;cases i with
  |zero=>cases e
  |succ i=>exact ih i g d e
 |da r _ ih=>
  intro i g d e;cases i with
  |zero=>cases e;simp_all
  |succ i=>exact ih i g d e
theorem Sb.so (s:Sb K H B σ ρ):StOk K (FB H B) H σ ρ where
 ext:=λa o e=>by cases e
 aH:=λa e=>.inl e
 own:=λa i e=>by cases e
 len:=s.len
 sl:=λi g d e=>by
  obtain⟨rfl,v,b,r⟩:=s.at i g d e
  exact⟨v,b,r.weak λa z=>by
   cases a with
   |none=>exact z
   |some a=>exact .inr z⟩
theorem zD (g:G)(a:Ad)(z:BG (FB H B) H g a):Mi.nw H a\/B a:=by
 cases g with
 |fr=>exact .inl z
 |od=>
  cases a with
  |none=>exact .inr z
  |some a=>exact absurd rfl z.1
 |al=>
  cases a with
  |none=>exact .inr z
  |some a=>exact z
 |nu=>
  rcases z with z|z
  .exact .inl z
  .cases a with
   |none=>exact z.elim
   |some a=>exact z.2.2
theorem Vn (f:Z.Κ=[])(h:Z.Φ=Φ)(s:Sb Z.K H B σ ρ)(e:aF [] Φ c ρ=.ok (g,d))(q:∀v b,Same H b->Rep Z.K b (λa=>Mi.nw H a\/B a) v d->Q v b):wE Z (.pur c) σ H Q:=⟨ρ,FB H B,(g,d),s.so,by rw[f,h];exact e,λv b i r=>q v b i (r.weak (zD g))⟩
end
def iB (n:Str)(s:Sg):D:=.tuple [.str "word",.str n,kR s]
theorem Ly (n:Str)(s:Sg):aL (iB n s)=true:=by show(Z7&&(Z7&&(aL (kR s)&&Z7)))=Z7;rw[zB];rfl
theorem Lz (x:List Str):imms (x.map ZX)=true:=uH.mpr λy a=>by obtain⟨z,_,rfl⟩:=av.mp a;rfl
theorem Vo (d:aF Κ Φ a c=.ok (.fr,x))(hr:c[i]?=Z9 (Z9 (.fr,.list b)))(hl:b.length<1000):aW Κ Φ (.mut "append" i (.cons a .nil)) c=.ok (.nx ((c.set i (Z9 (.fr,.list (b++[x])))).map eQ)):=by
 rw[Jx,yV,d,Res.aC,Jy,Res.aC,Res.aC,hr]
 dsimp only
 have:jS "append" b [(.fr,x)]=.ok (b++[x]):=by show(if(okIn (G.fr,x)&&decide (b.length<aZ))=Z7 then _ else _)=_;rw[ya];rw[show okIn (G.fr,x)=Z7 by show(aL x||(Z7||_))=Z7;rw[we,pi],Bool.true_and];refine yf ?_;unfold aZ;omega
 rw[this];rfl
def kK (n:Str)(s:Sg)(t:Th):List Str:=if kS t s then[n]else[]
theorem FR (hp:∀t∈ths,PK t)(hl:ths.length<=10)(hx:x.2.length=ths.length)(hw:∀w∈x.2,w.length<=20):Fe [iB n s,.list (ths.map pk),rdD x]=.ok (.al,rdD (pF n s ths x)):=by
 have z1:∀{a:List P} {b:List (List Str)},b.length=a.length->zipD (a.map pk) (b.map dP)=(a.zip b).map λt:Th=>.tuple [pk t.1,wl t]:=by
  intro a
  induction a with
  |nil=>intro b h;cases b with
   |nil=>rfl
   |cons _ _=>simp at h
  |cons y a ih=>intro b h;cases b with
   |nil=>simp at h
   |cons z b=>rw[br,br,zipD,ih (by simpa using h)];rfl
 refine eL ?_
 let Q:Res Out->Prop:=λz=>z=.ok (.rt .al (rdD (pF n s ths x)))
 show Q _
 let R:List Th->Option GD->Option GD->Option GD->Rho:=λpre u4 u5 u6=>[Z9 (.od,iB n s),Z9 (.od,.list (ths.map pk)),Z9 (.od,rdD x),Z9 (.fr,.list (pre.map λt=>dP (t.2++kK n s t))),u4,u5,u6]
 have zl:(ths.zip x.2).length<=10:=by rw[l0];omega
 have ez:evF [] [vH] (.zip (.var 1) (.ix (.var 2) (.int 1))) (R [] Z8 Z8 Z8)=.ok (.al,(ths.zip x.2).map (λt:Th=>.tuple [pk t.1,wl t]),R [] Z8 Z8 Z8):=by show(seqR (.list (ths.map pk))>>=λxs=>seqR (.list (x.2.map dP))>>=λzs=>Res.ok (G.al,zipD xs zs,R [] Z8 Z8 Z8))=_;rw[sQ (by grind),Res.aC,sQ (by grind),Res.aC,z1 hx]
 refine zgp ez (λpre ρ=>∃u4 u5 u6,ρ=R pre u4 u5 u6) ⟨Z8,Z8,Z8,rfl⟩ ?_ ?_
 .rintro pre t post ρ ex ⟨u4,u5,u6,rfl⟩
  have lp:pre.length<10:=by have:=congrArg tu ex;rw[bq,bu]at this;omega
  obtain⟨m1,m2⟩:=jj (ex▸bg _ bb);refine⟨_,K3 t,.inl ⟨_,?_,Z9 (.al,pk t.1),Z8,Z9 (.fr,dP (kK n s t)),rfl⟩⟩
  have e6:aF [] [vH] (.jO (.tv (.call 0 "holds" (.cons (.ix (.var 0) (.int 2)) (.cons (.var 4) (.cons (.var 5) .nil))))) (.lst (.cons (.ix (.var 0) (.int 1)) .nil)) (.lst .nil)) [Z9 (.od,iB n s),Z9 (.od,.list (ths.map pk)),Z9 (.od,rdD x),Z9 (.fr,.list (pre.map λt=>dP (t.2++kK n s t))),Z9 (.al,pk t.1),Z9 (.al,wl t),u6]=.ok (.fr,.list ((kK n s t).map .str)):=by
   rw[AJ,show cP _ _ _ _=_ from(aN (z0m (z00 (v_ix (z02 rfl) z05.e rfl (zB s)).e (z00 (z02 rfl) (z00 (z02 rfl) z09))) rfl (FA s (hp _ m1)) rfl).e rfl),Res.aC];unfold kK;cases kS t s with
   |true=>exact eC (aJ (v_ix (z02 rfl) z05.e rfl rfl) aY)
   |false=>exact eC aY
  refine eS (y4 e6 (Lz _)) (eS (Vo (x:=dP (t.2++kK n s t)) (sM (z02 rfl) (z02 rfl) ?_ (Lz _)) rfl (by grind)) ?_)
  .have ml:(kK n s t).length<=1:=by unfold kK;split<;>simp
   have tl:=hw _ m2;rw[cf];exact add_list (by grind)
  .rw[sP];show Res.ok (Out.nx [Z9 (.od,iB n s),Z9 (.od,.list (ths.map pk)),Z9 (.od,rdD x),Z9 (.fr,.list ((pre.map λt=>dP (t.2++kK n s t))++[dP (t.2++kK n s t)])),eQ (Z9 (.al,pk t.1)),eQ (Z9 (.al,wl t)),Z9 (.fr,dP (kK n s t))])=Res.ok (Out.nx (R (pre++[t]) _ _ _));rw[UA (eF _),show eQ (Z9 (.al,wl t))=Z8 from rfl];show _=Res.ok (Out.nx [_,_,_,Z9 (G.fr,ZW ((pre++[t]).map λt=>dP (t.2++kK n s t))),_,_,_]);rw[cf];rfl
 .rintro ρ ⟨u4,u5,u6,rfl⟩
  refine z0g ?_;show Res.ok (Out.rt .al (.tuple [.list (x.1.map dA),.list ((ths.zip x.2).map λt=>dP (t.2++kK n s t))]))=Res.ok (Out.rt .al (.tuple [.list (x.1.map dA),.list (((ths.zip x.2).map λp=>p.2++if Fz p.1 p.2 s then[n]else[]).map dP)]));rw[dh];rfl
section
variable {Κ:List D}{Φ:List Fn}{ρ:Rho}
theorem LA {β:Type}{m f:β->D}{p:β->Bool}:∀(xs:List β),(∀x∈xs,p x=Z7->∃g,F (m x)=.ok (Z9 (g,f x)))->(∀x∈xs,p x=Z6->F (m x)=.ok Z8)->∃ys,hY F (xs.map m)=.ok ys/\ys.map (·.2)=(xs.filter p).map f
 | [],_,_=>⟨[],rfl,rfl⟩
 |x::xs,h1,h2=>by
  obtain⟨ys,e1,e2⟩:=LA xs (λy hy=>h1 y (.tail _ hy)) (λy hy=>h2 y (.tail _ hy));cases e:p x with
  |true=>
   obtain⟨g,h⟩:=h1 x (.head _) e;refine⟨(g,f x)::ys,?_,?_⟩
   .rw[br,hY,h,e1];rfl
   .rw[mi e,br,br,e2]
  |false=>
   refine⟨ys,?_,?_⟩
   .rw[br,hY,h2 x (.head _) e,e1];rfl
   .rw[ip (e▸gp),e2]
theorem zdr {β:Type}{cond:C}{m:β->D}{xs:List β}(p:β->Bool)(f:β->D)(hw:evW Κ Φ it ρ=.ok w)(hx:w.2=xs.map m)(r:β->Rho)
  (hb:∀x∈xs,dQ tg (gJ (m x) w.1,m x) (bo nt Z8++js.map λj=>bW (ρ.getD j Z8))=.ok (r x)) (hc:∀x∈xs,Tt Κ Φ cond (r x) (p x)) (he:∀x∈xs,p x=Z7->Ev Κ Φ elt (r x) (f x)):
  Ev Κ Φ (.comp nt js N' tg it cond elt) ρ (.list ((xs.filter p).map f)):=by
 obtain⟨ys,e1,e2⟩:=LA (F:=λx=>dQ tg (gJ x w.1,x) (bo nt Z8++js.map λj=>bW (ρ.getD j Z8))>>=λρ1=>cP Κ Φ cond ρ1>>=λk=>if k then aF Κ Φ elt ρ1>>=λy=>.ok (Z9 y)else .ok Z8) xs (λx hx h=>by
  obtain⟨g,h2⟩:=he x hx h;refine⟨g,?_⟩;rw[hb x hx,Res.aC,show cP Κ Φ cond (r x)=_ from hc x hx,h,h2];rfl) (λx hx h=>by
  rw[hb x hx,Res.aC,show cP Κ Φ cond (r x)=_ from hc x hx,h];rfl)
 refine⟨nQ ys,?_⟩;rw[Ex,hw,Res.aC,hx,e1,Res.aC,e2]
theorem zjf {b:Type}{m:b->D}{a:List b}(f:b->D)(d:evW Κ Φ g ρ=.ok w)(hx:w.2=a.map m)(r:b->Rho)
  (hb:∀x∈a,dQ h (gJ (m x) w.1,m x) (bo i Z8++k.map λj=>bW (ρ.getD j Z8))=.ok (r x)) (e:∀x∈a,aF Κ Φ c (r x)=.ok (.fr,f x)):
  aF Κ Φ (.comp i k n h g .nil c) ρ=.ok (.fr,.list (a.map f)):=by
 rw[Ex];rw[d,Res.aC,hx];rw[Ep (λx=>Z9 (f x)) a λx hx=>by rw[hb x hx,Res.aC];rw[e x hx];rfl];rw[Res.aC,JA,AG]
 have:(a.filterMap λx=>Z9 (f x))=a.map f:=by
  clear hx hb e d
  induction a with
  |nil=>rfl
  |cons x a l=>rw[br,<-l];rfl
 rw[this]
end
def bA:Rw5->D
 |.op o=>opD o
 |.wd n s=>iB n s
 |.fa n=>.tuple [.str "fact",.str n]
 |.cl n a=>.tuple [.str "claim",.str n,jB a]
def bK:Rw5->Bool
 |.op _=>Z7
 |_=>Z6
def gY:Rw5->Bool
 |.wd _ _=>Z7
 |_=>Z6
structure FT (rows:List Rw5)(es:bF)(bk:Str->List Ru):Prop where
 op:∀o,Rw5.op o∈rows->(eP es (.str o.n)).getD (.list [])=.list ((bk o.n).map cC)/\(bk o.n).length<=20
 tw:(rows.filter gY).length<=1
 no:(rows.filter bK).length<=4
def nu (rows:List Rw5)(n:Nat):Nat:=n*(rows.filter bK).length
theorem Vp (h:Bd n m c x)(hl:a.length=n):Bd n m (c+1) (pF w s a x):=by
 refine⟨?_,h.m,λy b=>?_⟩
 .show((a.zip x.2).map _).length=n;have:=h.n;rw[ae,l0];omega
 .obtain⟨p,d,rfl⟩:=av.mp b;have e:=h.c p.2 (jj d).2;split<;>simp<;>omega
theorem LB (f:List Rw5):∀l c d,l.length<=2 ^ (ths.length*c)->(∀x∈l,Bd ths.length (ths.length*c) (ths.length*c+d) x)->(f.foldl (kH bk ths) l).length<=2 ^ (ths.length*(c+(f.filter bK).length))/\∀x∈f.foldl (kH bk ths) l,Bd ths.length (ths.length*(c+(f.filter bK).length)) (ths.length*(c+(f.filter bK).length)+(d+(f.filter gY).length)) x:=by
 induction f with
 |nil=>exact λl c d g h=>⟨g,h⟩
 |cons r f i=>
  intro l c d g h;cases r with
  |fa n=>exact i l c d g h
  |cl n a=>exact i l c d g h
  |wd n s=>
   have e:d+((Rw5.wd n s::f).filter gY).length=(d+1)+(f.filter gY).length:=by show d+((f.filter gY).length+1)=_;omega
   rw[e];refine i _ c (d+1) (by show(l.map _).length<=_;rw[ae];exact g) λx hx=>?_;obtain⟨y,p,rfl⟩:=av.mp hx;exact Vp (h y p) rfl
  |op o=>
   have e:c+((Rw5.op o::f).filter bK).length=(c+1)+(f.filter bK).length:=by show c+((f.filter bK).length+1)=_;omega
   rw[e];obtain⟨j,k⟩:=FO h (ai ths.length);rw[Lv]at j k;refine i _ (c+1) d ?_ λx hx=>?_
   .rw[Nat.mul_succ,Nat.pow_add];exact bp j (ud _ g)
   .have b:=k x hx;rw[Nat.mul_succ];exact⟨b.n,b.m,λw hw=>bp (b.c w hw) (by omega)⟩
structure RgA (K:Z5)(H:Hp)(rows:List Rw5)(es:bF)(bk:Str->List Ru)(hd:List P)(fa:P->P)(va vb vt:V):Prop where
 ok:FT rows es bk
 ra:Rep K H AnyB va (.list (rows.map bA))
 rb:Rep K H AnyB vb (.dict es)
 rt:Rep K H AnyB vt (.list (hd.map pk))
 hf:∀t∈hd,tF [.list (rows.map bA),pk t]=.ok (.fr,pk (fa t))/\PK (fa t)
 hl:hd.length<=6
def spRd (K:Z5)(mg:Str->Option Value):Sp:=λvs H Q E=>∃rows es bk hd fa va vb vt,vs=[va,vb,vt]/\RgA K H rows es bk hd fa va vb vt/\(nu rows hd.length<=8->∀H' u,Same H H'->Rep K H' (Mi.nw H) u (.list ((kI bk (hd.map fa) rows).map rdD))->Q u H')/\(8<nu rows hd.length->∀C H',mg "TooMuch"=Z9 (.ref C)->Same H H'->E (.ref C) Z8 H')
theorem vS (r:Rw5):aL (bA r)=true:=by
 cases r with
 |op o=>exact UQ o
 |wd n s=>exact Ly n s
 |fa n=>rfl
 |cl n a=>show(Z7&&(Z7&&(aL (jB a)&&Z7)))=Z7;rw[Bi];rfl
theorem Vq (a:List Rw5)(n:Int)(hr:(a.filter bK).length<=4):Ff [.list (a.map bA),.int n]=.ok (.fr,.int ((a.filter bK).length*n)):=by refine eL ?_;have b:=zdr (Κ:=[]) (Φ:=[]) (ρ:=[Z9 (.od,.list (a.map bA)),Z9 (.od,.int n)]) (nt:=1) (js:=[]) (N':=["row"]) (tg:=.nm 0) (it:=.tv (.var 0)) (cond:=.tv (.cmp .Eq (.ix (.var 0) (.int 0)) (.str "open"))) (elt:=.var 0) bK bA (bR rfl rfl) rfl (λr=>[Z9 (.al,bA r)]) (λr _=>pD (vS r)) (λr _=>by cases r<;>rfl) (λr _ _=>z02 rfl);obtain⟨g,b⟩:=b;exact z0g (z0s (cF (d:=.int ((a.filter bK).length*n)) (fB (z00 ⟨g,b⟩ z09) (by show Res.ok _=_;rw[ae]) rfl).e (z02 rfl) (yX (by omega)) rfl))
abbrev Φr:List Fn:=[tF,Ff,Fe]
theorem LC {a:List Rw5}{hd:List P}(c:Φ[0]?=Z9 tF)(hf:∀t∈hd,tF [.list (a.map bA),pk t]=.ok (.fr,pk (fa t))/\PK (fa t))(h0:bW (b.getD 0 Z8)=Z9 (.od,.list (a.map bA)))(d:b[2]?=Z9 (Z9 (.od,.list (hd.map pk)))):aF [] Φ L66.kn b=.ok (.fr,.list ((hd.map fa).map pk)):=by have hc:=z1f (Κ:=[]) (nt:=1) (js:=[0]) (N':=["thing","act"]) (elt:=.call 0 "of_facts" (.cons (.var 1) (.cons (.var 0) .nil))) (λ_=>Z7) (λt=>pk (fa t)) (bR (by rw[mK];rw[d];rfl) rfl) rfl (λt=>[Z9 (.al,pk t),Z9 (.od,.list (a.map bA))]) (λt _=>by show dQ (.nm 0) _ [Z8,bW (b.getD 0 Z8)]=_;rw[h0];exact pD (eF _)) (λ_ _=>oV) λt ht _=>z0m (z00 (z02 rfl) (z00 (z02 rfl) z09)) c (hf t ht).1 (eF _);rw[fg.mpr λ_ _=>rfl]at hc;rw[dh];exact hc
theorem LD (h:Z.gi[j]?=Z9 n)(q:Q (.int n) H):wE Z (.gi j) a H Q:=by show(match Z.gi[j]? with|some n=>(λ_ H (Q:VK)=>Q (.int n) H)|none=>mM) a H Q;rw[h];exact q
section
variable {Z:Wc}{H:Hp}{D0:Ends}{rows:List Rw5}{es:bF}{bk:Str->List Ru}{hd:List P}{fa:P->P}{va vb vt:V}
theorem zrr (f:Z.Κ=[])(i:Z.Φ=Φr)(hg:Z.gi[0]?=Z9 8)(f0:Z.fn[0]?=Z9 (spWo Z.K))(a:RgA Z.K H rows es bk hd fa va vb vt)
  (q:nu rows hd.length<=8->∀k u,Same H k->Rep Z.K k (Mi.nw H) u (.list ((kI bk (hd.map fa) rows).map rdD))->D0.rt u k) (qE:8<nu rows hd.length->∀C k,Z.mg "TooMuch"=Z9 (.ref C)->Same H k->Z.E (.ref C) Z8 k):wS Z L66.rg D0 [Z9 va,Z9 vb,Z9 vt,Z8,Z8,Z8] H:=by
 have sl:∀{k:Hp} {o3 o4 M:Option V} {r3 r4 r5:Option GD},Same H k->Sl Z.K k [o3,o4,M] [r3,r4,r5]->Sl Z.K k [Z9 va,Z9 vb,Z9 vt,o3,o4,M] [Z9 (.od,.list (rows.map bA)),Z9 (.od,.dict es),Z9 (.od,.list (hd.map pk)),r3,r4,r5]:=λ{k o3 o4 M r3 r4 r5} s t=>.da (a.ra.same s λ_ z=>z) (.da (a.rb.same s λ_ z=>z) (.da (a.rt.same s λ_ z=>z) t));have J:hX "len" [.list (hd.map pk)]=.ok (.int hd.length):=by show Res.ok (ZV ((hd.map pk).length:Nat))=_;rw[ae]
 have eu:=Vq rows hd.length a.ok.no;have en:((rows.filter bK).length*hd.length:Int)=(nu rows hd.length:Nat):=by unfold nu;rw[wp,tj]
 rw[en]at eu
 have cmp:∀{n:Nat},cmpD .Gt (.int n) (.int 8)=.ok (decide (8<n)):=λ{n}=>by
  show Res.ok (decide ((8:Int)<n))=_
  congr 1
  exact decide_eq_decide.mpr (by omega)
 by_cases big:8<nu rows hd.length
 .refine bG (dC (E4 (eD f i (sl (Same.refl H) (.no (.no (.no .nil)))) (iA (z00 (z02 rfl) (z00 (fB (z00 (z02 rfl) z09) J rfl).e z09)) rfl eu) λv1 H1 s1 r1=>LD hg (sV (B':=AnyB) (dy:=.int 8) r1 rfl (by rw[cmp,yf big]) λH2 s2=>⟨Z7,rfl,bG (λC hC=>qE big C H2 hC (s1.trans s2))⟩))))
 have nb:nu rows hd.length<=8:=by omega
 refine bG (dC (E4 (eD f i (sl (Same.refl H) (.no (.no (.no .nil)))) (iA (z00 (z02 rfl) (z00 (fB (z00 (z02 rfl) z09) J rfl).e z09)) rfl eu) λv1 H1 s1 r1=>LD hg (sV (B':=AnyB) (dy:=.int 8) r1 rfl (by rw[cmp,yg big]) λH2 s2=>⟨Z6,rfl,bU Z ?_⟩))));have N:=s1.trans s2;refine dH (vQ (Sl.so (sl N (.no (.no (.no .nil))))) (by rw[f,i];exact LC rfl a.hf rfl rfl) λv3 H3 s3 X=>?_);have r3:=X.weak λ_ _=>trivial;have B:=N.trans s3;refine dH (mO (aV (E5 (aV (mO (dN ⟨cy _,λL he=>?_⟩))))));have Y:Same H3 (upd H3 L (.lst [])):=Same.upd he;refine aV (vQ (Sl.so (sl (B.trans Y) (.da (r3.same Y λ_ z=>z) (.no (.no .nil))))) (d:=.list ((hd.map fa).map λ_=>.list [])) (by rw[f];exact(zjf (λ_=>.list []) (bR (x:=.list ((hd.map fa).map pk)) rfl rfl) rfl (λt=>[Z9 (.al,pk t)]) (λt _=>pD (eF t)) λt _=>eC aY)) λO W s5 rh=>dN ⟨by rw[dw];simp,λt ht=>dN ⟨by rw[dw];simp,λp0 LF=>?_⟩⟩);have uT:Same W (upd W t (.tup [.ref L,O])):=Same.upd ht;have uP:Same (upd W t (.tup [.ref L,O])) (upd (upd W t (.tup [.ref L,O])) p0 (.lst [.ref t])):=Same.upd LF;have sA:=(Y.trans s5).trans (uT.trans uP);have rf:Rep Z.K (upd (upd W t (.tup [.ref L,O])) p0 (.lst [.ref t])) (Mi.nw H) (.ref p0) (.list ([(([],(hd.map fa).map λ_=>[]):Rdg)].map rdD)):=by refine⟨p0,[.ref t],rfl,.inl ⟨aT,((B.trans Y).trans (s5.trans uT)).none LF⟩,.ref t,[],rfl,⟨t,_,rfl,bN.of (uP _ _ aT),.ref L,[O],rfl,⟨L,[],rfl,.inl ⟨uP _ _ (uT _ _ (s5 _ _ aT)),B.none he⟩,rfl⟩,O,[],rfl,?_,rfl⟩,rfl⟩;rw[dh];exact(rh.same (uT.trans uP) λ_ z=>z).weak (nw.wk (B.trans Y))
 generalize upd (upd W t (.tup [.ref L,O])) p0 (.lst [.ref t])=HA at rf sA ⊢;have D:=B.trans sA;obtain⟨aa,vs,rfl,hq,oP⟩:=FQ (a.ra.same D λ_ z=>z);refine bG (z86 (λb j I k=>b=aa/\Same HA k/\∃u M,I=[Z9 (.ref aa),Z9 vb,Z9 vt,Z9 v3,Z9 u,M]/\Rep Z.K k (Mi.nw H) u (.list (((rows.take j).foldl (kH bk (hd.map fa)) [([],(hd.map fa).map λ_=>[])]).map rdD))) (λR hR=>aQ rfl (hR aa HA hq ⟨rfl,Same.refl HA,_,_,rfl,rf⟩)) (λb j I k h=>by obtain⟨rfl,s,_⟩:=h;exact SqL.same hq s) ?_ ?_)
 .rintro b j v I k hv ⟨rfl,A,u,M,rfl,P⟩ D2 Bo nx
  obtain⟨d,nI,rd⟩:=aD.eY oP hv;rw[ar]at nI;obtain⟨r,hr,rfl⟩:=bc.mp nI;have tk:rows.take (j+1)=rows.take j++[r]:=by rw[km,hr];rfl
  have fo:(rows.take (j+1)).foldl (kH bk (hd.map fa)) [([],(hd.map fa).map λ_=>[])]=kH bk (hd.map fa) ((rows.take j).foldl (kH bk (hd.map fa)) [([],(hd.map fa).map λ_=>[])]) r:=by rw[tk,j8];rfl
  have bd:=LB (bk:=bk) (rows.take j) [([],(hd.map fa).map λ_=>[])] 0 0 (by rw[Nat.mul_zero];exact ai 1) λx hx=>by rw[ag.mp hx];exact⟨ae ..,cy _,λw hw=>by obtain⟨_,_,rfl⟩:=av.mp hw;exact cy _⟩
  have wt:((rows.take j).filter gY).length<=1:=bp ((mn _ _).filter _).length_le a.ok.tw;have h1:((rows.take (j+1)).filter bK).length<=(rows.filter bK).length:=((mn _ _).filter _).length_le;have h0:((rows.take j).filter bK).length<=(rows.filter bK).length:=((mn _ _).filter _).length_le;rw[ae,jo]at bd;have nc:=bp (pf _ h0) nb;have ct:∀o,r=.op o->hd.length*((rows.take j).filter bK).length+hd.length<=8:=λo e=>by rw[tk,jc,bq,e,show[Rw5.op o].filter bK=[Rw5.op o]from rfl]at h1;exact bp (pf hd.length h1) nb
  refine FG (rd.same A λ_ z=>z) (by simp) λw Q=>?_;have y:∀{S:Hp},Same k S->Sl Z.K S [Z9 (.ref b),Z9 vb,Z9 vt,Z9 v3,Z9 u,Z9 w] [Z9 (.od,.list (rows.map bA)),Z9 (.od,.dict es),Z9 (.od,.list (hd.map pk)),Z8,Z8,Z9 (.od,bA r)]:=λ{S} p=>sl (D.trans (A.trans p)) (.no (.no (.da (Q.same p λ_ z=>z) .nil)));cases r with
  |fa n=>refine bG (dC (fK f i (y (Same.refl k)) (aN (z0l (v_ix (z02 rfl) z05.e rfl rfl).e cM.e (by rfl)).e rfl) λS p=>?_));refine bG (dC (fK f i (y p) (b:=Z6) (aN (z0l (v_ix (z02 rfl) z05.e rfl rfl).e cM.e (by rfl)).e rfl) λH7 T=>bU Z (bU Z ?_)));refine bU Z (nx _ _ ⟨rfl,A.trans (p.trans T),_,_,rfl,?_⟩);rw[fo];exact P.same (p.trans T) λ_ z=>z
  |cl n ak=>refine bG (dC (fK f i (y (Same.refl k)) (aN (z0l (v_ix (z02 rfl) z05.e rfl rfl).e cM.e (by rfl)).e rfl) λS p=>?_));refine bG (dC (fK f i (y p) (b:=Z6) (aN (z0l (v_ix (z02 rfl) z05.e rfl rfl).e cM.e (by rfl)).e rfl) λH7 T=>bU Z (bU Z ?_)));refine bU Z (nx _ _ ⟨rfl,A.trans (p.trans T),_,_,rfl,?_⟩);rw[fo];exact P.same (p.trans T) λ_ z=>z
  |wd n s=>
   refine bG (dC (fK f i (y (Same.refl k)) (aN (z0l (v_ix (z02 rfl) z05.e rfl rfl).e cM.e (by rfl)).e rfl) λS p=>?_))
   let l:=(rows.take j).foldl (kH bk (hd.map fa)) [([],(hd.map fa).map λ_=>[])]
   have Vr:∀t∈hd.map fa,PK t:=λt ht=>by obtain⟨t',U,rfl⟩:=av.mp ht;exact(a.hf t' U).2
   have ec:Ev [] Φr (.comp 1 [5,3] ["reading","row","known"] (.nm 0) (.tv (.var 4)) .nil (.call 2 "with_word" (.cons (.var 1) (.cons (.var 2) (.cons (.var 0) .nil))))) [Z8,Z8,Z8,Z9 (.al,.list ((hd.map fa).map pk)),Z9 (.al,.list (l.map rdD)),Z9 (.al,iB n s)] (.list ((l.filter λ_=>Z7).map λx=>rdD (pF n s (hd.map fa) x))):=by refine zdr (λ_=>Z7) (λx=>rdD (pF n s (hd.map fa) x)) (bR (ρ:=[Z8,Z8,Z8,Z9 (.al,.list ((hd.map fa).map pk)),Z9 (.al,.list (l.map rdD)),Z9 (.al,iB n s)]) rfl rfl) rfl (λx=>[Z9 (.al,rdD x),Z9 (.al,iB n s),Z9 (.al,.list ((hd.map fa).map pk))]) (λx _=>rfl) (λ_ _=>oV) λx hx _=>?_;have b:=bd.2 x hx;exact iA (z00 (z02 rfl) (z00 (z02 rfl) (z00 (z02 rfl) z09))) rfl (FR Vr (by rw[ae];have:=a.hl;omega) (b.n.trans (ae ..).symm) λw hw=>bp (b.c w hw) (by omega))
   rw[fg.mpr λ_ _=>rfl]at ec;obtain⟨g,ec⟩:=ec;refine dH (Vn f i (.no (.no (.no (.da ((X.weak (nw.wk N)).same (sA.trans (A.trans p)) λ_ z=>z) (.da (P.same p λ_ z=>z) (.da (Rep.bD _ (Ly n s) (Q.same p λ_ z=>z)) .nil)))))) ec λu9 H9 s9 r9=>?_);refine bU Z (bU Z (nx _ _ ⟨rfl,(A.trans p).trans s9,_,_,rfl,?_⟩));rw[fo];show Rep _ _ _ _ (.list ((l.map (pF n s (hd.map fa))).map rdD));rw[dh];exact r9.weak λa z=>z.elim (nw.wk ((D.trans A).trans p) a) id
  |op o=>
   obtain⟨eb,lb⟩:=a.ok.op o (bt hr);refine bG (dC (fK f i (y (Same.refl k)) (aN (z0l (v_ix (z02 rfl) z05.e rfl rfl).e cM.e (by rfl)).e rfl) λS p=>?_));refine bG (dC (fK f i (y p) (aN (z0l (v_ix (z02 rfl) z05.e rfl rfl).e cM.e (by rfl)).e rfl) λH7 T=>?_));have LG:=p.trans T;refine dH (iE f0 (aV (aQ rfl (aV (eD f i (y LG) (d:=.list ((bk o.n).map cC)) ?_ λVs H8 s8 Vt=>?_)))))
   .have e1:Ev [] Φr (.ix (.var 5) (.int 1)) [Z9 (.od,.list (rows.map bA)),Z9 (.od,.dict es),Z9 (.od,.list (hd.map pk)),Z8,Z8,Z9 (.od,bA (.op o))] (.str o.n):=(v_ix (z02 rfl) z05.e rfl rfl).e;obtain⟨ys,ea,ed⟩:=z00 e1 (z00 (Ev.of (eC aY)) z09);refine⟨gJ (.list ((bk o.n).map cC)) .al,?_⟩;show(Res.ok (G.od,PyData.dict es)>>=λx=>_)=_;rw[Res.aC,ea,Res.aC,ed];show((Res.ok ((eP es (.str o.n)).getD (.list [])))>>=λd=>_)=_;rw[eb];rfl
   have F:=LG.trans s8;refine aV (aQ rfl (aV (aQ rfl (dN ⟨o,bk o.n,hd.map fa,_,Mi.nw H,w,Vs,v3,u,rfl,⟨Q.same F λ_ z=>z,Vt,r3.same (sA.trans (A.trans F)) λ_ z=>z,P.same F λ_ z=>z,λt ht=>?_,by rw[ae];have:=a.hl;omega,lb,λx hx=>?_,?_⟩,λH9 u9 s9 r9=>?_⟩))))
   .obtain⟨t',U,rfl⟩:=av.mp ht;exact(a.hf t' U).2
   .have b:=bd.2 x hx;refine⟨b.n.trans (ae ..).symm,bp b.m (by omega),λw hw=>bp (b.c w hw) (by omega)⟩
   .rw[ae];refine bp (ud _ bd.1) ?_;rw[<-Nat.pow_add];exact oq (by decide) (ct o rfl)
   .refine bU Z (bU Z (nx _ _ ⟨rfl,(A.trans F).trans s9,_,_,rfl,?_⟩));rw[fo];exact r9.weak λa z=>z.elim (nw.wk ((D.trans A).trans F) a) id
 .rintro b I k ⟨rfl,A,u,M,rfl,P⟩
  rw[oP.length,ae,fj (ai _)]at P;exact iD (aQ rfl ((q nb) k u (D.trans A) P))
end
def fL (c:Str):Rw5->Option Ak
 |.cl n a=>if n=c then Z9 a else Z8
 |_=>Z8
def cN (rows:List Rw5)(c:Str):Option Ak:=rows.findSome? (fL c)
def FU (mg:Str->Option Value)(H:Hp)(cl:Str)(E:XK):Prop:=∀C H' dp,mg "Unknown"=Z9 (.ref C)->Same H H'->H' dp=Z8->E (.ref C) (Z9 dp) (upd H' dp (.xd [("name",.str cl)]))
def tM (K:Z5)(mg:Str->Option Value):Sp:=λvs H Q E=>∃rows cl va,vs=[va,.str cl]/\ZY cl=Z7/\Rep K H AnyB va (.list (rows.map bA))/\(∀a,cN rows cl=Z9 a->∀H' u,Same H H'->Rep K H' AnyB u (jB a)->Q u H')/\(cN rows cl=Z8->FU mg H cl E)
theorem Vu (l:Z.Κ=[])(m:Z.Φ=[])(J:ZY cl=Z7)(ra:Rep Z.K H AnyB U (.list (c.map bA)))(q:∀a,cN c cl=Z9 a->∀f u,Same H f->Rep Z.K f AnyB u (jB a)->D0.rt u f)(V:cN c cl=Z8->FU Z.mg H cl Z.E):wS Z L66.ao D0 [Z9 U,Z9 (.str cl),Z8] H:=by
 obtain⟨L,vs,rfl,Q,D⟩:=FQ ra;refine bG (z86 (λb j i f=>b=L/\Same H f/\(∃M,i=[Z9 (.ref L),Z9 (.str cl),M])/\∀r∈c.take j,fL cl r=Z8) (λR W=>aQ rfl (W L H Q ⟨rfl,Same.refl H,⟨_,rfl⟩,λ_ h=>by cases h⟩)) (λb j i f h=>by obtain⟨rfl,s,_⟩:=h;exact SqL.same Q s) ?_ ?_)
 .rintro b j v i f hv ⟨rfl,A,⟨M,rfl⟩,no⟩ D2 N nx
  obtain⟨d,F,rd⟩:=aD.eY D hv;rw[ar]at F;obtain⟨r,hr,rfl⟩:=bc.mp F;have S:c.take (j+1)=c.take j++[r]:=by rw[km,hr];rfl
  have sp:c=c.take j++r::c.drop (j+1):=by have I:=ba.mp hr;rw[<-I.2,<-lg I.1,nj]
  refine FG (rd.same A λ_ z=>z) (by simp) λw O=>?_;have p:∀{G:Hp},Same f G->Sl Z.K G [Z9 (.ref b),Z9 (.str cl),Z9 w] [Z8,Z9 (.od,.str cl),Z9 (.od,bA r)]:=λ{G} t=>.no (.da (B:=AnyB) ⟨rfl,J⟩ (.da (O.same t λ_ z=>z) .nil));have T:∀{s:Str},eR (bA r) (.int 0)=.ok (.str s)->Tt [] [] (.tv (.cmp .Eq (.ix (.var 2) (.int 0)) (.str "claim"))) [Z8,Z9 (.od,.str cl),Z9 (.od,bA r)] (decide (s="claim")):=λ{s} h=>aN (z0l (k:=decide (s="claim")) (v_ix (z02 rfl) z05.e h rfl).e cM.e (by show Res.ok _=_;rw[kP])).e rfl
  have x:fL cl r=Z8->(∃s,eR (bA r) (.int 0)=.ok (.str s)/\s≠"claim")->wS Z (.seq (.ifS (.tp (.and (.tv (.cmp .Eq (.ix (.var 2) (.int 0)) (.str "claim"))) (.tv (.cmp .Eq (.ix (.var 2) (.int 1)) (.var 1))))) (.seq (.ret (.pur (.ix (.var 2) (.int 2)))) .nil) .nil) .nil) D2 [Z9 (.ref b),Z9 (.str cl),Z9 w] f:=λhn ⟨s,I,h2⟩=>by
   refine bG (dC (fK l m (p (Same.refl f)) (sO (k':=Z6) (yg h2▸T I) λz=>by cases z) λG t=>?_));refine bU Z (bU Z (nx _ _ ⟨rfl,A.trans t,⟨_,rfl⟩,λy g=>?_⟩));rw[S]at g;rcases bw.mp g with g|g
   .exact no y g
   .rw[ag.mp g];exact hn
  cases r with
  |op o=>exact x rfl ⟨"open",rfl,by decide⟩
  |wd n s=>exact x rfl ⟨"word",rfl,by decide⟩
  |fa n=>exact x rfl ⟨"fact",rfl,by decide⟩
  |cl n a=>
   refine bG (dC (fK l m (p (Same.refl f)) (b:=decide (n=cl)) (sO (T rfl) λ_=>(aN (z0l (k:=decide (n=cl)) (v_ix (z02 rfl) z05.e rfl rfl).e (z02 rfl) (by show Res.ok _=_;rw[kP])).e rfl)) λG t=>?_));by_cases e:n=cl
   .rw[ya (yf e)];refine bG (iD (eD l m (p t) (v_ix (z02 rfl) z05.e rfl (Bi a)).e λu H7 s7 ru=>?_));rw[N];refine q a ?_ H7 u (A.trans (t.trans s7)) ru;rw[sp];exact UD no (ya e)
   .rw[yb (by rw[yg e];decide)];refine bU Z (bU Z (nx _ _ ⟨rfl,A.trans t,⟨_,rfl⟩,λy g=>?_⟩));rw[S]at g;rcases bw.mp g with g|g
    .exact no y g
    .rw[ag.mp g];exact yb e
 .rintro b i f ⟨rfl,A,⟨M,rfl⟩,no⟩
  rw[D.length,ae,fj (ai _)]at no;exact bG (λC hC=>aQ rfl λdp P=>V (UE no) C f dp hC A P)
theorem FV (q:wE Z o a H λx b=>tyV Z.K "list" x b/\wE Z v a b λy c=>zY x [y] c λ_ d=>e.nx a d):wS Z (.app o v) e a H:=q
theorem z89 (I:Addr->List V->Nat->L2.St->Hp->Prop)(hit:∀R,(∀a vs H1,SqL Z.K H1 a vs->I a vs 0 σ H1->R (.ref a) H1)->wE Z it σ H R)(sq:∀a vs k σ' H',I a vs k σ' H'->SqL Z.K H' a vs)
  (one:∀a vs k v σ' H',vs[k]?=Z9 v->I a vs k σ' H'->∀D2,D2.rt=D0.rt->(∀hS H3,I a vs (k+1) hS H3->D2.nx hS H3)->wS Z b D2 (σ'.set i (Z9 v)) H') (q:∀a vs σ' H',I a vs vs.length σ' H'->D0.nx σ' H'):wS Z (.gW i it b) D0 σ H:=by
 refine hit _ λa vs H1 h1 i1=>⟨a,rfl,⟨vs,h1⟩,λk m σ' H'=>m=vs.length-k/\k<=vs.length/\I a vs k σ' H',⟨_,rfl,cy _,i1⟩,?_⟩
 rintro k m σ' H' ⟨rfl,hk,ik⟩
 have hs:=sq a vs k σ' H' ik;by_cases oW:k<vs.length
 .refine .inr ⟨⟨vs,vs[k],hs,am oW⟩,λtZ H2=>vs.length-(k+1)=vs.length-(k+1)/\k+1<=vs.length/\I a vs (k+1) tZ H2,λtZ H2 w=>⟨_,by omega,w⟩,λy H2 hy=>?_⟩;obtain⟨e2,hy⟩:=hy;rw[e2];exact one a vs k y σ' H' (hy _ hs) ik _ rfl λhS H3 w=>⟨rfl,oW,w⟩
 .have :k=vs.length:=by omega
  subst this;exact .inl ⟨⟨vs,hs,ai _⟩,q a vs σ' H' ik⟩
def Bp (w:Str):Prop:=w="must"\/w="never"\/w="open"
theorem LH {w:Str}(h:Bp w):ZY w=true:=by rcases h with rfl|rfl|rfl<;>decide+kernel
structure zE (K:Z5)(H:Hp)(rows:List Rw5)(es:bF)(bk:Str->List Ru)(hd:List P)(fa:P->P)(cl:Str)(f:List (List Str)->Bool)(va vb vt:V):Prop extends RgA K H rows es bk hd fa va vb vt where
 sc:ZY cl=Z7
 hs:∀ask,cN rows cl=Z9 ask->∀hs:List (List Str),hs.length=hd.length->(∀w∈hs,w.length<=20)->A' [jB ask,.list ((hd.map fa).map pk),.list (hs.map dP)]=.ok (.fr,.bool (f hs))
def LI (K:Z5)(mg:Str->Option Value)(H:Hp)(rows:List Rw5)(bk:Str->List Ru)(hd:List P)(fa:P->P)(cl:Str)(f:List (List Str)->Bool)(Q:VK)(E:XK):Prop:=
 (∀ask,cN rows cl=Z9 ask->nu rows hd.length<=8->∀H' t p ws w (l:List Rdg),Same H H'->H' t=Z9 (.tup [.str w,.ref p])->Bp w->H' p=Z9 (.lst ws)->aD K H' AnyB ws (l.map rdD)->Q (.ref t) H')
 /\(∀ask,cN rows cl=Z9 ask->8<nu rows hd.length->∀C H',mg "TooMuch"=Z9 (.ref C)->Same H H'->E (.ref C) Z8 H')
 /\(cN rows cl=Z8->FU mg H cl E)
def spSe (K:Z5)(mg:Str->Option Value):Sp:=λvs H Q E=>∃rows es bk hd fa cl f va vb vt,vs=[va,vb,vt,.str cl]/\zE K H rows es bk hd fa cl f va vb vt/\LI K mg H rows bk hd fa cl f Q E
abbrev FW:List Fn:=[tF,A']
theorem Bq (n:Nat)(l:P):aR (n+2) (pk l)=true:=nN.mpr λx hx=>by obtain⟨p,_,rfl⟩:=av.mp hx;cases n<;>rfl
theorem Vw (n:Nat)(f a:P):aR (n+3) (mP f a)=true:=by show(aR (n+2) (pk f)&&(aR (n+2) (pk a)&&Z7))=Z7;rw[Bq,Bq];rfl
theorem Vx (n:Nat)(r:Ru):aR (n+4) (cC r)=true:=by show(aR (n+3) (mP r.2.1.1 r.2.2.1.1)&&(Z7&&(aR (n+1+2) (pk r.2.2.2.1)&&Z7)))=Z7;rw[Vw,Bq];rfl
theorem Vy (n:Nat)(e:En):aR (n+5) (dA e)=true:=by show(Z7&&(Z7&&(aR (n+4) (cC e.2.2)&&Z7)))=Z7;rw[Vx];rfl
theorem Vz (n:Nat)(x:List Str):aR (n+1) (dP x)=true:=KR n x
theorem VA (n:Nat)(x:Rdg):aR (n+7) (rdD x)=true:=by show(eO (n+5) (x.1.map dA)&&(eO (n+5) (x.2.map dP)&&Z7))=Z7;rw[nN.mpr λy hy=>by obtain⟨e,_,rfl⟩:=av.mp hy;exact Vy n e,nN.mpr λy hy=>by obtain⟨b,_,rfl⟩:=av.mp hy;exact Vz (n+4) b];rfl
theorem VB (l:List Rdg):cmpD .Eq (.list (l.map rdD)) (.list [])=.ok (decide (l=[])):=by show(if(aR 40 (.list (l.map rdD))&&aR 40 (.list []))=Z7 then Res.ok (dV (.list (l.map rdD)) (.list []))else .no)=_;rw[ya (by show(eO 39 (l.map rdD)&&Z7)=Z7;rw[nN.mpr λy a=>by obtain⟨e,_,rfl⟩:=av.mp a;exact VA 32 e];rfl)];cases l<;>rfl
section
variable {Z:Wc}{H:Hp}{D0:Ends}{rows:List Rw5}{es:bF}{bk:Str->List Ru}{hd:List P}{fa:P->P}{cl:Str}{f:List (List Str)->Bool}{va vb vt:V}
theorem VC (hκ:Z.Κ=[])(hφ:Z.Φ=FW)(f0:Z.fn[0]?=Z9 (spRd Z.K Z.mg))(f1:Z.fn[1]?=Z9 (tM Z.K Z.mg))(a:zE Z.K H rows es bk hd fa cl f va vb vt)(qq:LI Z.K Z.mg H rows bk hd fa cl f D0.rt Z.E):wS Z L66.st D0 [Z9 va,Z9 vb,Z9 vt,Z9 (.str cl),Z8,Z8,Z8,Z8,Z8] H:=by
 have mS:=a.sc;have sl:∀{g:Hp} {o4 o5 o6 o7 I:Option V} {r4 r5 O r7 r8:Option GD},Same H g->Sl Z.K g [o4,o5,o6,o7,I] [r4,r5,O,r7,r8]->Sl Z.K g [Z9 va,Z9 vb,Z9 vt,Z9 (.str cl),o4,o5,o6,o7,I] [Z9 (.od,.list (rows.map bA)),Z9 (.od,.dict es),Z9 (.od,.list (hd.map pk)),Z9 (.od,.str cl),r4,r5,O,r7,r8]:=λ{g o4 o5 o6 o7 I r4 r5 O r7 r8} s t=>.da (a.ra.same (B':=AnyB) s λ_ z=>z) (.da (a.rb.same (B':=AnyB) s λ_ z=>z) (.da (a.rt.same (B':=AnyB) s λ_ z=>z) (.da (B:=AnyB) (d:=.str cl) ⟨rfl,mS⟩ t)));refine dH (iE f1 (aV (aQ rfl (aV (aQ rfl (dN ⟨rows,cl,va,rfl,mS,a.ra,λask ha H1 v4 s1 r4=>?_,qq.2.2⟩))))));refine dH (eD hκ hφ (sl s1 (.no (.no (.no (.no (.no .nil)))))) (Ev.of (LC rfl a.hf rfl rfl)) λv5 H2 s2 r5=>?_);refine dH (mO (dN ⟨cy _,λq h6=>?_⟩));refine dH (mO (dN ⟨cy _,λA h7=>?_⟩));have FY:q≠A:=λz=>by rw[<-z,aT]at h7;cases h7
 have FZ:Same H2 (upd (upd H2 q (.lst [])) A (.lst [])):=(Same.upd h6).trans (Same.upd h7);have e6:upd (upd H2 q (.lst [])) A (.lst []) q=Z9 (.lst []):=aB FY▸aT;have e7:upd (upd H2 q (.lst [])) A (.lst []) A=Z9 (.lst []):=aT;generalize upd (upd H2 q (.lst [])) A (.lst [])=P at FZ e6 e7 ⊢;have jC:=(s1.trans s2).trans FZ;have call:∀{Q:VK} {E:XK},(nu rows hd.length<=8->∀g u,Same P g->Rep Z.K g (Mi.nw P) u (.list ((kI bk (hd.map fa) rows).map rdD))->Q u g)->(8<nu rows hd.length->∀C g,Z.mg "TooMuch"=Z9 (.ref C)->Same P g->E (.ref C) Z8 g)->spRd Z.K Z.mg [va,vb,vt] P Q E:=λ{Q E} h1 h2=>⟨rows,es,bk,hd,fa,va,vb,vt,rfl,⟨a.ok,a.ra.same jC λ_ z=>z,a.rb.same jC λ_ z=>z,a.rt.same jC λ_ z=>z,a.hf,a.hl⟩,h1,h2⟩;by_cases big:8<nu rows hd.length
 .exact bG (z89 (λ_ _ _ _ _=>False) (λR _=>iE f0 (aV (aQ rfl (aV (aQ rfl (aV (aQ rfl (dN (call (λnb=>absurd big (by omega)) λ_ C g hC s'=>qq.2.1 ask ha big C g hC (jC.trans s')))))))))) (λ_ _ _ _ _ h=>h.elim) (λ_ _ _ _ _ _ _ h=>h.elim) λ_ _ _ _ h=>h.elim)
 have nb:nu rows hd.length<=8:=by omega
 let L:=kI bk (hd.map fa) rows
 have bd:=LB (bk:=bk) (ths:=hd.map fa) rows [([],(hd.map fa).map λ_=>[])] 0 0 (by rw[Nat.mul_zero];exact ai 1) λx hx=>by rw[ag.mp hx];exact⟨ae ..,cy _,λw hw=>by obtain⟨_,_,rfl⟩:=av.mp hw;exact cy _⟩
 rw[ae,jo]at bd;have VD:hd.length*(rows.filter bK).length<=8:=nb;have tw:=a.ok.tw;have lL:L.length<=256:=bp bd.1 (oq (by decide) VD)
 have VE:∀p∈[q,A],∃o,P p=Z9 o:=λp M=>by
  rcases au.mp M with rfl|M
  .exact⟨_,e6⟩
  .rw[ag.mp M];exact⟨_,e7⟩
 have oN:=FP VE
 have fin:∀{S T:List V} {I:Option V} {g:Hp} {U X:List Rdg},Same H2 g->g q=Z9 (.lst S)->g A=Z9 (.lst T)->aD Z.K g (Mi.nw P) S (U.map rdD)->aD Z.K g (Mi.nw P) T (X.map rdD)->wS Z L66.zy D0 [Z9 va,Z9 vb,Z9 vt,Z9 (.str cl),Z9 v4,Z9 v5,Z9 (.ref q),Z9 (.ref A),I] g:=λ{S T I g U X} sH F m O r7=>by
  have O:aD Z.K g AnyB S (U.map rdD):=O.weak λ_ _=>trivial;have r7:aD Z.K g AnyB T (X.map rdD):=r7.weak λ_ _=>trivial;have LJ:∀{H4:Hp},Same g H4->Sl Z.K H4 [Z9 va,Z9 vb,Z9 vt,Z9 (.str cl),Z9 v4,Z9 v5,Z9 (.ref q),Z9 (.ref A),I] [Z8,Z8,Z8,Z8,Z8,Z8,Z9 (.od,.list (U.map rdD)),Z9 (.od,.list (X.map rdD)),Z8]:=λ{H4} J=>.no (.no (.no (.no (.no (.no (.da (B:=AnyB) ⟨q,S,rfl,.inl ⟨J _ _ F,trivial⟩,O.same J λ_ z=>z⟩ (.da (B:=AnyB) ⟨A,T,rfl,.inl ⟨J _ _ m,trivial⟩,r7.same J λ_ z=>z⟩ (.no .nil))))))));have Y:∀{s:Str} {H4:Hp} {x:W} {D1:Ends},D1.rt=D0.rt->Bp s->Same g H4->(∀N Q,Same g N->(∀p ws (l:List Rdg) D,Same N D->D p=Z9 (.lst ws)->aD Z.K D AnyB ws (l.map rdD)->Q (.ref p) D)->wE Z x [Z9 va,Z9 vb,Z9 vt,Z9 (.str cl),Z9 v4,Z9 v5,Z9 (.ref q),Z9 (.ref A),I] N Q)->wS Z (L66.Bj s x) D1 [Z9 va,Z9 vb,Z9 vt,Z9 (.str cl),Z9 v4,Z9 v5,Z9 (.ref q),Z9 (.ref A),I] H4:=λ{s H4 x D1} er hs J hx=>by refine iD (E5 (aV (zd (LH hs) λN G=>aV (hx N _ (J.trans G) λp ws l D s6 M rp=>dN ⟨by rw[dw];simp,λt ht=>?_⟩))));rw[er];have ut:Same D (upd D t (.tup [.str s,.ref p])):=Same.upd ht;exact(qq.1 ask ha nb) _ t p ws s l (((s1.trans s2).trans sH).trans (J.trans (G.trans (s6.trans ut)))) aT hs (ut _ _ M) (rp.same ut λ_ z=>z)
  have nil:∀N Q,Same g N->(∀p ws (l:List Rdg) D,Same N D->D p=Z9 (.lst ws)->aD Z.K D AnyB ws (l.map rdD)->Q (.ref p) D)->wE Z (.lst .nil) [Z9 va,Z9 vb,Z9 vt,Z9 (.str cl),Z9 v4,Z9 v5,Z9 (.ref q),Z9 (.ref A),I] N Q:=λN Q _ k=>mO (dN ⟨cy _,λp M=>k p [] [] _ (Same.upd M) aT rfl⟩);have tN:∀{l:List Rdg} {i:Nat} {ρ:Rho},ρ[i]?=Z9 (Z9 (.od,.list (l.map rdD)))->Tt [] FW (.tv (.cmp .Eq (.var i) (.lst .nil))) ρ (decide (l=[])):=λ{l i ρ} h=>aN (z0l (k:=decide (l=[])) (z02 h) (Ev.of (eC aY)) (VB l)).e rfl;refine bG (dC (fK hκ hφ (LJ (Same.refl g)) (tN rfl) λH4 J=>?_));by_cases z1:X=[]
  .rw[ya (yf z1)];exact Y rfl (.inl rfl) J nil
  rw[yb (by rw[yg z1];decide)];refine bU Z (bG (dC (fK hκ hφ (LJ J) (tN rfl) λN G=>?_)));by_cases z2:U=[]
  .rw[ya (yf z2)];exact Y rfl (.inr (.inl rfl)) (J.trans G) nil
  rw[yb (by rw[yg z2];decide)];refine bU Z (Y rfl (.inr (.inr rfl)) (J.trans G) λD Q s6 k=>?_)
  have first:∀{ws:List V} {l:List Rdg} {p:Addr} {H7:Hp} {i:Nat} {Q:VK},l≠[]->aD Z.K g AnyB ws (l.map rdD)->Same g H7->H7 p=Z9 (.lst ws)->[Z9 va,Z9 vb,Z9 vt,Z9 (.str cl),Z9 v4,Z9 v5,Z9 (.ref q),Z9 (.ref A),I][i]?=Z9 (Z9 (.ref p))->(∀v H8 y,Same H7 H8->Rep Z.K H8 AnyB v (rdD y)->Q v H8)->wE Z (.pY (.raw i) (L66.i1 0)) [Z9 va,Z9 vb,Z9 vt,Z9 (.str cl),Z9 v4,Z9 v5,Z9 (.ref q),Z9 (.ref A),I] H7 Q:=λ{ws l p H7 i Q} oN r s7 M hi kq=>by
   cases l with
   |nil=>exact absurd rfl oN
   |cons y l=>obtain⟨v,r',rfl,ry,_⟩:=r;exact Kk (aQ hi (E3 λH8 s8=>Lj (k:=0) (s8 _ _ M) rfl (by decide) (kq v H8 y s8 (ry.same (s7.trans s8) λ_ z=>z))))
  refine mO (aV (first z2 O s6 (s6 _ _ F) rfl λv H7 y s7 q1=>aV (first z1 r7 (s6.trans s7) (s7 _ _ (s6 _ _ m)) rfl λv' H8 y' s8 q2=>dN ⟨by rw[dw];simp,λp M=>?_⟩)));have up:Same H8 (upd H8 p (.lst [v,v'])):=Same.upd M;exact k p [v,v'] [y,y'] _ (s7.trans (s8.trans up)) aT ⟨v,_,rfl,q1.same (s8.trans up) λ_ z=>z,v',_,rfl,q2.same up λ_ z=>z,rfl⟩
 refine bG (z89 (λb vs j σ' g=>b≠q/\b≠A/\Same H2 g/\g b=Z9 (.lst vs)/\aD Z.K g (Mi.nw P) vs (L.map rdD)/\∃S T I,σ'=[Z9 va,Z9 vb,Z9 vt,Z9 (.str cl),Z9 v4,Z9 v5,Z9 (.ref q),Z9 (.ref A),I]/\g q=Z9 (.lst S)/\g A=Z9 (.lst T)/\∃U X:List Rdg,U.length<=j/\X.length<=j/\aD Z.K g (Mi.nw P) S (U.map rdD)/\aD Z.K g (Mi.nw P) T (X.map rdD)) (λR hR=>?_) (λb vs j σ' g h=>SqL.of h.2.2.2.1) ?_ ?_)
 .refine iE f0 (aV (aQ rfl (aV (aQ rfl (aV (aQ rfl (dN ?_)))))));refine call (λ_ H4 u J ru=>?_) λF1=>absurd F1 big;obtain⟨b,vs,rfl,nb,hb,rv⟩:=FH ru;exact hR b vs H4 (SqL.of hb) ⟨(λz=>by rw[z,e6]at nb;cases nb),(λz=>by rw[z,e7]at nb;cases nb),FZ.trans J,hb,rv,[],[],Z8,rfl,J _ _ e6,J _ _ e7,[],[],ai 0,ai 0,rfl,rfl⟩
 .rintro b vs j v σ' g hv ⟨b6,b7,sH,hb,oP,S,T,I,rfl,F,m,U,X,LK,LL,O,r7⟩ D2 Bo nx
  obtain⟨d,nI,rd⟩:=aD.eY oP hv;rw[ar]at nI;obtain⟨x,hx,rfl⟩:=bc.mp nI;have bx:=bd.2 x (bt hx);have jl:j<256:=by have:=(ba.mp hx).1;omega
  refine bG (dC (fK hκ hφ (sl ((s1.trans s2).trans sH) (.da ((r4.same (B':=AnyB) s2 λ_ z=>z).same (B':=AnyB) sH λ_ z=>z) (.da (r5.same (B':=AnyB) sH λ_ z=>z) (.no (.no (.da rd .nil)))))) (b:=f x.2) (aN (z0m (z00 (z02 rfl) (z00 (z02 rfl) (z00 (tJ (d:=.list (x.2.map dP)) (z02 rfl) z05.e rfl) z09))) rfl (a.hs ask ha x.2 bx.n λw hw=>bp (bx.c w hw) (by omega)) rfl).e rfl) λN G=>?_))
  have up:∀{p:Addr} {w:List V} {D:Hp},(p=q\/p=A)->N p=Z9 (.lst w)->D=upd N p (.lst (w++[v]))->Same H2 D/\D b=Z9 (.lst vs)/\(∀us ds,aD Z.K g (Mi.nw P) us ds->aD Z.K D (Mi.nw P) us ds)/\∀p',p'≠p->D p'=N p':=λ{p w D} M e eH=>by
   subst eH;have n2:H2 p=none:=by rcases M with rfl|rfl;exact h6;exact(Same.upd h6).none h7
   refine⟨λc ob ec=>?_,?_,λus ds r=>aD.aB e (by rcases M with rfl|rfl<;>simp) oN (r.same G λ_ z=>z),λp' VF=>aB VF⟩
   .rw[aB λz=>by rw[z,n2]at ec;cases ec];exact G _ _ (sH _ _ ec)
   .rw[aB λz=>by rcases M with rfl|rfl;exact b6 z;exact b7 z];exact G _ _ hb
  have LM:aD Z.K g (Mi.nw P) [v] [rdD x]:=⟨v,[],rfl,rd,rfl⟩;have LN:∀{w:List V} {l:List Rdg},aD Z.K g (Mi.nw P) w (l.map rdD)->l.length<=256->w.length<bh:=λ{w l} r hl=>by have:=r.length;rw[ae]at this;rw[dw];omega
  have ap:∀{l:List Rdg},l.length<=j->(l++[x]).length<=j+1:=λh=>by rw[bq];show _+1<=_;omega
  cases hf:f x.2 with
  |true=>refine bG (FV (aQ rfl ⟨.inl ⟨rfl,_,SqL.of (G _ _ F)⟩,aQ rfl ⟨q,S,v,rfl,rfl,G _ _ F,LN O (by omega),?_⟩⟩));obtain⟨g1,g2,g3,g4⟩:=up (.inl rfl) (G _ _ F) rfl;refine bU Z (bU Z (nx _ _ ⟨b6,b7,g1,g2,g3 _ _ oP,S++[v],T,_,rfl,aT,by rw[g4 _ (Ne.symm FY)];exact G _ _ m,U++[x],X,ap LK,by omega,?_,g3 _ _ r7⟩));rw[cf];exact g3 _ _ (O.append LM)
  |false=>refine bG (FV (aQ rfl ⟨.inl ⟨rfl,_,SqL.of (G _ _ m)⟩,aQ rfl ⟨A,T,v,rfl,rfl,G _ _ m,LN r7 (by omega),?_⟩⟩));obtain⟨g1,g2,g3,g4⟩:=up (.inr rfl) (G _ _ m) rfl;refine bU Z (bU Z (nx _ _ ⟨b6,b7,g1,g2,g3 _ _ oP,S,T++[v],_,rfl,by rw[g4 _ FY];exact G _ _ F,aT,U,X++[x],by omega,ap LL,g3 _ _ O,?_⟩));rw[cf];exact g3 _ _ (r7.append LM)
 .rintro b vs σ' g ⟨b6,b7,sH,hb,oP,S,T,I,rfl,F,m,U,X,LK,LL,O,r7⟩
  exact fin sH F m O r7
end
def tO (vs:List Int)(d:List Bool):Prop:=∀(i j:Nat) (a b:Int),vs[i]?=Z9 a->vs[j]?=Z9 b->a<=b->d[i]?=Z9 Z7->d[j]?=Z9 Z7
def kL (vs:List Int):Option Int->List Bool
 |none=>vs.map λ_=>Z6
 |some z=>vs.map λv=>decide (z<=v)
theorem Br (vs:List Int)(z:Option Int):(kL vs z).length=vs.length:=by cases z<;>exact ae ..
theorem vT {i:Nat}:(kL vs (Z9 z))[i]?=Z9 Z7↔∃v,vs[i]?=Z9 v/\z<=v:=by unfold kL;rw[ar,bc];exact⟨λ⟨v,h1,h2⟩=>⟨v,h1,ye h2⟩,λ⟨v,h1,h2⟩=>⟨v,h1,yf h2⟩⟩
theorem F2 {i:Nat}:¬(kL a Z8)[i]?=Z9 true:=by
 unfold kL;rw[ar,bc]
 rintro⟨v,_,h⟩;cases h
theorem VG (d:List Int)(z:Option Int):tO d (kL d z):=λi j a b f hb c h=>by
 cases z with
 |none=>exact absurd h F2
 |some z=>obtain⟨v,e,g⟩:=vT.mp h;rw[f]at e;cases e;exact vT.mpr ⟨b,hb,xh g c⟩
theorem LO:∀(l:List Int),l≠[]->∃m∈l,∀x∈l,m<=x
 | [],h=>absurd rfl h
 | [x],_=>⟨x,.head _,λy b=>by rw[ag.mp b];exact jy _⟩
 |x::y::l,_=>by
  obtain⟨m,hm,h⟩:=LO (y::l) nofun;by_cases e:x<=m
  .refine⟨x,.head _,λz a=>?_⟩;rcases au.mp a with rfl|a
   .exact jy _
   .exact xh e (h z a)
  .refine⟨m,.tail _ hm,λz a=>?_⟩;rcases au.mp a with rfl|a
   .omega
   .exact h z a
theorem LP {e:List Bool}(hl:d.length=e.length)(h:∀i:Nat,d[i]?=Z9 Z7↔e[i]?=Z9 Z7):d=e:=by refine List.ext_getElem hl λi a b=>?_;have:=h i;rw[am a,am b]at this;cases c:d[i]<;>cases f:e[i]<;>rw[c,f]at this<;>simp at this<;>rfl
theorem VH (hl:d.length=vs.length)(h:tO vs d):∃z,(∀x,z=Z9 x->x∈vs)/\d=kL vs z:=by
 by_cases hn:∀i:Nat,d[i]?≠Z9 Z7
 .refine⟨Z8,nofun,LP (hl.trans (Br vs Z8).symm) λi=>⟨λz=>absurd z (hn i),λz=>absurd z F2⟩⟩
 .have hn:∃i,d[i]?=Z9 true:=Classical.byContradiction λz=>hn λi e=>z ⟨i,e⟩;obtain⟨i0,h0⟩:=hn
  let T:=((vs.zip d).filter λp=>p.2).map (·.1)
  have mT:∀{v},v∈T↔∃i,vs[i]?=Z9 v/\d[i]?=Z9 true:=λ{v}=>by
   constructor
   .intro hv;obtain⟨p,hp,rfl⟩:=av.mp hv;obtain⟨h1,h2⟩:=fm.mp hp;obtain⟨i,hi⟩:=d9.mp h1;obtain⟨h3,h4⟩:=fi.mp hi;exact⟨i,h3,by rw[h4,h2]⟩
   .rintro⟨i,h1,h2⟩
    refine av.mpr ⟨(v,Z7),fm.mpr ⟨d9.mpr ⟨i,fi.mpr ⟨h1,h2⟩⟩,rfl⟩,rfl⟩
  have lt:i0<vs.length:=hl▸(ba.mp h0).1;obtain⟨m,hm,F3⟩:=LO T λz=>by have:vs[i0]∈T:=mT.mpr ⟨i0,am lt,h0⟩;rw[z]at this;cases this
  obtain⟨k,k1,k2⟩:=mT.mp hm;refine⟨Z9 m,(λx e=>by cases e;exact bt k1),LP (hl.trans (Br vs _).symm) λi=>⟨λz=>?_,λz=>?_⟩⟩
  .have li:i<vs.length:=hl▸(ba.mp z).1;exact vT.mpr ⟨vs[i],am li,F3 _ (mT.mpr ⟨i,am li,z⟩)⟩
  .obtain⟨v,h1,h2⟩:=vT.mp z;exact h k i m v k1 h1 h2 k2
theorem LQ:∀n,(bits n).Nodup
 |0=>cz.mpr ⟨(λz=>by cases z),gy⟩
 |n+1=>by
  refine List.pairwise_flatMap.mpr ⟨λd _=>?_,(LQ n).imp λ{a b} F5 x hx y hy e=>?_⟩
  .refine ij.mpr ⟨λy hy e=>?_,iu _ _⟩;rw[ag.mp hy]at e;have:=ro e;cases this
  .have ex:∀{c x:List Bool},x∈[c++[Z7],c++[Z6]]->x.dropLast=c:=fun{c x} hx=>by
    rcases au.mp hx with rfl|hx
    .exact ue
    .rw[ag.mp hx];exact ue
   exact F5 ((ex hx).symm.trans (e▸ex hy))
theorem VI (h:∀x,z=Z9 x->x∈a)(c:∀x,b=Z9 x->x∈a)(e:kL a z=kL a b):z=b:=by
 have one:∀{x:Int} {w:Option Int},x∈a->kL a (Z9 x)=kL a w->∃y,w=Z9 y/\y<=x:=λ{x w} hx e=>by
  obtain⟨i,d⟩:=d9.mp hx;have:(kL a (Z9 x))[i]?=Z9 true:=vT.mpr ⟨x,d,jy _⟩;rw[e]at this;cases w with
  |none=>exact absurd this F2
  |some y=>obtain⟨v,f,g⟩:=vT.mp this;rw[d]at f;cases f;exact⟨y,rfl,g⟩
 cases z with
 |none=>
  cases b with
  |none=>rfl
  |some y=>obtain⟨_,w,_⟩:=one (c y rfl) e.symm;cases w
 |some x=>obtain⟨y,rfl,j⟩:=one (h x rfl) e;obtain⟨k,w,hx⟩:=one (c y rfl) e.symm;cases w;rw[Int.le_antisymm hx j]
theorem VJ {g:List Int}(nd:g.Nodup)(j:∀z,z∈g↔z∈c){D:List Bool->Bool}(k:∀d,d.length=c.length->(D d=Z7↔tO c d)):((bits c.length).filter D).length=1+g.length:=by
 have hm:∀w∈Z8::g.map Z9,∀x,w=Z9 x->x∈c:=λw hw x e=>by
  rcases au.mp hw with rfl|hw
  .cases e
  .obtain⟨y,l,rfl⟩:=av.mp hw;cases e;exact(j _).mp l
 have h:(Z8::g.map Z9).Nodup:=by refine cz.mpr ⟨λz=>?_,jp.mpr (nd.imp λ{a b} f e=>by cases e;exact f rfl)⟩;obtain⟨_,_,e⟩:=av.mp z;cases e
 have i:((Z8::g.map Z9).map (kL c)).Nodup:=by refine jp.mpr (List.Pairwise.imp_of_mem (λ{a b} m hb f e=>f (VI (hm a m) (hm b hb) e)) h)
 have p:=(List.perm_ext_iff_of_nodup ((LQ _).sublist um) i).mpr λd=>by
  rw[fm,av];constructor
  .rintro⟨n,o⟩
   have hl:=Bf _ d n;obtain⟨z,q,r⟩:=VH hl ((k d hl).mp o);refine⟨z,?_,r.symm⟩;cases z with
   |none=>exact .head _
   |some x=>exact .tail _ (av.mpr ⟨x,(j x).mpr (q x rfl),rfl⟩)
  .rintro⟨z,_,rfl⟩
   exact⟨UZ _ _ (Br c z),(k _ (Br c z)).mpr (VG c z)⟩
 rw[p.length_eq,ae,bu,ae,Nat.add_comm]
structure Iv (f:Str)(ns:List Str)(n:Nat)(x:Rdg):Prop where
 len:x.2.length=n
 fw:∀w∈x.2,f∉w
 en:∀e∈x.1,e.1∈ns
section
variable {f:Str}{ns:List Str}{n:Nat}{x y:Rdg}{o:Op}{rs:List Ru}{k:Nat}{th:P}{ths:List P}{b:Bool}{es:List En}
theorem Iv.more (h:Iv f ns n x)(m:Str):Iv f (m::ns) n x:=⟨h.len,h.fw,λe a=>.tail _ (h.en e a)⟩
theorem Iv.at (h:Iv f ns n x)(k:Nat):f∉x.2.getD k []:=by
 rw[az];cases e:x.2[k]? with
 |none=>exact λz=>by cases z
 |some w=>exact h.fw w (bt e)
theorem F6 (h:Iv f ns n x)(ho:o.n≠f)(hm:o.n∈ns)(he:∀e∈es,e.1=o.n):Iv f ns n (gD o k x es b):=by
 refine⟨(du ..).trans h.len,λw hw=>?_,λe zF=>?_⟩
 .rcases lj hw with hw|rfl
  .exact h.fw w hw
  .intro z;rcases bw.mp z with z|z
   .exact h.at k z
   .cases b with
    |true=>exact ho (ag.mp z).symm
    |false=>cases z
 .rcases bw.mp zF with zF|zF
  .exact h.en e zF
  .rw[he e zF];exact hm
theorem VL (h:Iv f ns n x)(ho:o.n≠f)(hm:o.n∈ns)(hy:y∈dZ o rs k th x):Iv f ns n y:=by
 have one:∀{r:Ru} {b':Bool},Iv f ns n (gD o k x [(o.n,k,r)] b'):=λ{r b'}=>F6 h ho hm λe he=>by rw[ag.mp he]
 unfold dZ at hy;split at hy
 .rw[ag.mp hy];exact F6 h ho hm λ_ he=>by cases he
 .rcases au.mp hy with rfl|hy
  .exact one
  .rw[ag.mp hy];exact one
theorem LR (ho:o.n≠f)(hm:o.n∈ns):∀a {l:List Rdg},(∀x∈l,Iv f ns n x)->∀y∈openK o rs a l,Iv f ns n y
 | [],_,h=>h
 |t::a,l,h=>LR ho hm a λy b=>by obtain⟨x,hx,b⟩:=ja.mp b;exact VL (h x hx) ho hm b
theorem VM (h:Iv f ns n x)(hw:w≠f)(hl:ths.length=n):Iv f ns n (pF w s ths x):=by
 refine⟨?_,λu hu=>?_,h.en⟩
 .show((ths.zip x.2).map _).length=n;have:=h.len;rw[ae,l0];omega
 .obtain⟨p,a,rfl⟩:=av.mp hu;intro z;rcases bw.mp z with z|z
  .exact(h.fw p.2 (jj a).2) z
  .split at z
   .exact hw (ag.mp z).symm
   .cases z
theorem LS:∀{l:List Rdg},(∀x∈l,(z1n o rs ths [x]).length=c)->(z1n o rs ths l).length=l.length*c
 | [],_=>by
  have:∀a,openK o rs a []=[]:=λa=>by
   induction a with
   |nil=>rfl
   |cons t a b=>exact b
  unfold z1n;rw[this];simp
 |x::l,h=>by have e:z1n o rs ths (x::l)=z1n o rs ths [x]++z1n o rs ths l:=K0 o rs _ [x] l;rw[e,bq,h x (.head _),LS λy d=>h y (.tail _ d),bu,Nat.succ_mul,Nat.add_comm]
def VN (qcn:Op->Nat):Rw5->Nat
 |.op o=>qcn o
 |_=>1
def opN:Rw5->List Str
 |.op o=>[o.n]
 |_=>[]
theorem z1x:∀(rows:List Rw5) (l:List Rdg) (ns:List Str),(∀o,Rw5.op o∈rows->o.n≠f/\o.n∉ns/\∀x ns',Iv f ns' ths.length x->o.n∉ns'->(z1n o (bk o.n) ths [x]).length=qcn o)->(∀w s,Rw5.wd w s∈rows->w≠f)->(rows.flatMap opN).Nodup->(∀x∈l,Iv f ns ths.length x)->
  (rows.foldl (kH bk ths) l).length=l.length*(rows.map (VN qcn)).foldr (· * ·) 1
 | [],l,ns,_,_,_,_=>by simp
 |.fa n::rows,l,ns,h1,h2,h3,h4=>by show(rows.foldl (kH bk ths) l).length=l.length*(1*_);rw[ot];exact z1x rows l ns (λo ho=>h1 o (.tail _ ho)) (λw s hw=>h2 w s (.tail _ hw)) h3 h4
 |.cl n a::rows,l,ns,h1,h2,h3,h4=>by show(rows.foldl (kH bk ths) l).length=l.length*(1*_);rw[ot];exact z1x rows l ns (λo ho=>h1 o (.tail _ ho)) (λw s hw=>h2 w s (.tail _ hw)) h3 h4
 |.wd w s::rows,l,ns,h1,h2,h3,h4=>by show(rows.foldl (kH bk ths) (l.map (pF w s ths))).length=l.length*(1*_);rw[ot,z1x rows _ ns (λo ho=>h1 o (.tail _ ho)) (λw s hw=>h2 w s (.tail _ hw)) h3 λx hx=>by obtain⟨y,hy,rfl⟩:=av.mp hx;exact VM (h4 y hy) (h2 w s (.head _)) rfl,ae]
 |.op o::rows,l,ns,h1,h2,h3,h4=>by
  obtain⟨g1,g2,g3⟩:=h1 o (.head _);obtain⟨g4,g5⟩:=cz.mp h3;show(rows.foldl (kH bk ths) (z1n o (bk o.n) ths l)).length=l.length*(qcn o*_)
  have k:∀o',Rw5.op o'∈rows->o'.n≠f/\o'.n∉o.n::ns/\∀x ns',Iv f ns' ths.length x->o'.n∉ns'->(z1n o' (bk o'.n) ths [x]).length=qcn o':=λo' ho'=>by
   obtain⟨k1,k2,k3⟩:=h1 o' (.tail _ ho');refine⟨k1,λz=>?_,k3⟩;rcases au.mp z with z|z
   .exact g4 (z▸ja.mpr ⟨_,ho',.head _⟩)
   .exact k2 z
  rw[z1x rows (z1n o (bk o.n) ths l) (o.n::ns) k (λw s hw=>h2 w s (.tail _ hw)) g5 (LR g1 (.head _) _ λx hx=>(h4 x hx).more o.n),LS λx hx=>g3 x ns (h4 x hx) g2,u8]
theorem VO (hr:∀th∈ths,∀ws,f∉ws->eT r (cZ o th ws)=Z7)(ho:o.n≠f)(hx:Iv f ns n x):(z1n o [r] ths [x]).length=1:=by
 have one:∀a,(∀t∈a,t.1∈ths)->∀y,Iv f (o.n::ns) n y->(openK o [r] a [y]).length=1:=λa=>by
  induction a with
  |nil=>exact λ_ _ _=>rfl
  |cons t a d=>
   intro ht y c
   have e:dZ o [r] t.2 t.1 y=[gD o t.2 y [] (iS r)]:=by
    have:dO eT iS ([r]++(y.1.filter λe=>decide (e.1=o.n)).map (·.2.2)) (cZ o t.1 (y.2.getD t.2 []))=Z9 (iS r):=by show(if eT r _=Z7 then Z9 (iS r)else _)=_;rw[ya (hr t.1 (ht t (.head _)) _ (c.at t.2))]
    unfold dZ;rw[this]
   show(openK o [r] a ([y].flatMap (dZ o [r] t.2 t.1))).length=1;rw[iw,e];exact d (λt b=>ht t (.tail _ b)) _ (F6 c ho (.head _) λ_ g=>by cases g)
 refine one ths.zipIdx (λt ht=>?_) x (hx.more o.n);exact bt (UB ht)
theorem Bt (B:∀t∈ths,∀l∈ths,∀ws m,f∉ws->f∉m->(stC (cZ o t ws) (cZ o l m)=Z7↔val t<=val l)){zs:List Int}(nd:zs.Nodup)(F:∀z,z∈zs↔z∈ths.map val)(hx:Iv f ns ths.length x)(hn:o.n∉ns):(z1n o [] ths [x]).length=1+zs.length:=by
 obtain⟨es,hs⟩:=x;have hl:hs.length=ths.length:=hx.len;have e:=zds (rs:=[]) (hs:=hs) (λe G z=>hn (z▸hx.en e G)) ths 0 [([],[])] (λy H=>by rw[ag.mp H];rfl) (by omega);have I:[([],[])].map (stK o es hs)=[(es,hs)]:=by show[(es++[],mR o hs [])]=_;rw[d6];cases hs<;>rfl
 rw[I]at e;have cl:(zA o hs ths.zipIdx).length=ths.length:=by unfold zA;rw[ae,jd]
 have r:=(zml UU (UX (λr hr=>by cases hr)) (λcs d=>@decide _ (Classical.propDecidable (okR qI qJ zy (qK []) cs d))) (λcs d=>@decide_eq_true_iff _ (Classical.propDecidable _)) ths.length _ cl).1;unfold lZ at r;unfold z1n;rw[e,r,ae,ae];have C:(ths.map val).length=ths.length:=ae ..;rw[<-C]
 have g:∀{i:Nat} {c:Ce},(zA o hs ths.zipIdx)[i]?=Z9 c↔∃t,ths[i]?=Z9 t/\c=(i,cZ o t (hs.getD i [])):=λ{i c}=>by
  unfold zA;rw[ar,bc];constructor
  .rintro⟨p,u,rfl⟩
   rw[ou,bc]at u;obtain⟨t,ht,rfl⟩:=u;exact⟨t,ht,by rw[jo]⟩
  .rintro⟨t,ht,rfl⟩
   exact⟨(t,i),by rw[ou,ht,jo];rfl,rfl⟩
 have hw:=hx.at;refine VJ nd F λd hd=>?_;rw[@decide_eq_true_iff _ (Classical.propDecidable _)];constructor
 .rintro⟨_,h⟩ i j a b D hb v w
  rw[ar,bc]at D hb;obtain⟨t,ht,rfl⟩:=D;obtain⟨l,k,rfl⟩:=hb;have E:j<d.length:=by rw[hd,C];exact(ba.mp k).1
  have:=h ((i,cZ o t (hs.getD i [])),Z7) (d9.mpr ⟨i,fi.mpr ⟨g.mpr ⟨t,ht,rfl⟩,w⟩⟩) ((j,cZ o l (hs.getD j [])),d[j]) (d9.mpr ⟨j,fi.mpr ⟨g.mpr ⟨l,k,rfl⟩,am E⟩⟩) ((B t (bt ht) l (bt k) _ _ (hw i) (hw j)).mpr v) rfl;rw[am E];exact congrArg Z9 this
 .intro h;refine⟨nofun,λp u q J s A=>?_⟩;obtain⟨i,w⟩:=d9.mp u;obtain⟨j,K⟩:=d9.mp J;obtain⟨i1,L⟩:=fi.mp w;obtain⟨M,N⟩:=fi.mp K;obtain⟨t,ht,O⟩:=g.mp i1;obtain⟨l,k,P⟩:=g.mp M;rw[O,P]at s;have:=h i j (val t) (val l) (by rw[ar,ht];rfl) (by rw[ar,k];rfl) ((B t (bt ht) l (bt k) _ _ (hw i) (hw j)).mp s) (by rw[L,A]);rw[N]at this;exact yc this
end
def mU (c k:Int):Int:=(c%1000000007+31*k+1)*(c%1000000007+31*k+1)%2147483629*(k+7)%2147483647
theorem zI (c:Int)(h0:0<=k)(a:k<=100):zt [.int c,.int k]=.ok (.fr,.int (mU c k)):=by exact eL (eS (mL (cF (cF (cF (z02 rfl) z05.e (j' (by decide)) rfl).e (cF z05.e (z02 rfl) (yX (by decide)) rfl).e rfl rfl).e z05.e rfl rfl)) (z0g (z0s (cF (cF (cF (cF (z02 rfl) (z02 rfl) (yX ⟨by omega,by omega⟩) rfl).e z05.e (j' (by decide)) rfl).e (cF (z02 rfl) z05.e rfl rfl).e (JD ⟨by omega,by omega⟩) rfl).e z05.e (j' (by decide)) rfl))))
abbrev LT:Str:="abcghijkmn"
def nmO (p:Str)(k:Nat):Str:=p++chr LT k
def fC (c:Int)(l:List Nat):Str:=l.foldl (λw (j:Nat)=>w++chr "abcdefghijklmnopqrstuvwxyz" ((c/11+j*j)%26)) ""
theorem F7 (c:Int)(l:List Nat):(fC c l).length=l.length:=by
 have:∀(l:List Nat) (w:Str),(l.foldl (λw (j:Nat)=>w++chr "abcdefghijklmnopqrstuvwxyz" ((c/11+j*j)%26)) w).length=w.length+l.length:=λl=>by
  induction l with
  |nil=>exact λw=>rfl
  |cons j l ih=>intro w;rw[List.foldl_cons,ih,JC,AH,bu];omega
 unfold fC;rw[this];show 0+_=_;omega
theorem VP (c:Int){k:Nat}(hk:k<10):Fg [.int c,.int k]=.ok (.fr,.str (nmO (fC c (cc (c%11).toNat)) k)):=by
 refine eL ?_;have hc:0<=c%11/\c%11<11:=⟨g8 _ (by decide),gg _ (by decide)⟩
 let Q:Res Out->Prop:=λz=>z=.ok (.rt .fr (.str (nmO (fC c (cc (c%11).toNat)) k)))
 show Q _;refine lU (mL cM) (lU (mL cM) ?_);refine zgp (JO (z00 (cF (z02 rfl) z05.e (j' (by decide)) rfl).e z09) (Es hc.1 (by omega))) (λpre a=>∃b,a=[Z9 (.od,.int c),Z9 (.od,.int k),Z9 (.al,.str "abcdefghijklmnopqrstuvwxyz"),Z9 (.al,.str (fC c pre)),b]) ⟨Z8,rfl⟩ ?_ ?_
 .rintro pre j g a hx ⟨b,rfl⟩
  have lt:pre.length+1<=11:=by have:=congrArg tu hx;rw[fz,bq,bu]at this;omega
  refine⟨_,rfl,.inl ?_⟩;have f:0<=(c/11+(j:Int)*j)%26/\(c/11+(j:Int)*j)%26<26:=⟨g8 _ (by decide),gg _ (by decide)⟩
  have h:j<11:=by
   have:j∈cc (c%11).toNat:=by rw[hx];exact bg _ (.head _)
   have:=gf.mp this;omega
  refine⟨_,eS (mL (d:=.str (fC c (pre++[j]))) ?_) sP,⟨_,rfl⟩⟩;have e:fC c (pre++[j])=fC c pre++chr "abcdefghijklmnopqrstuvwxyz" ((c/11+j*j)%26):=by unfold fC;rw[j8];rfl
  rw[e];exact cF (z02 rfl) (v_ix (z02 rfl) (cF (cF (cF (z02 rfl) z05.e (KN (by decide) (by decide)) rfl).e (cF (z02 rfl) (z02 rfl) (yX ⟨by omega,by omega⟩) rfl).e rfl rfl).e z05.e (j' (by decide)) rfl).e (zX f.1 (by show _<((26:Nat):Int);omega) (by decide)) rfl).e (add_str (by rw[F7,AH];omega)) rfl
 .rintro a ⟨b,rfl⟩
  refine z0g (z0s (cF (z02 rfl) (v_ix cM.e (z02 rfl) (zX (by omega) (by show _<((10:Nat):Int);omega) (by decide)) rfl).e (add_str (by rw[F7,AH,fz];omega)) rfl))
theorem VQ {c:Str}(h:a++b=a++c):b=c:=by
 have e:∀x y:Str,(x++y).cps.toList=x.cps.toList++y.cps.toList:=λx y=>by show(x.cps++y.cps).toList=_;simp
 have d:=congrArg (λs:Str=>s.cps.toList) h;simp only[e]at d;cases b;cases c;exact congrArg _ (Array.toList_inj.mp (ro d))
theorem pH (a:i<10)(b:j<10)(h:nmO p i=nmO p j):i=j:=by
 have:∀i:Fin 10,∀j,chr LT i.1=chr LT j.1->i=j:=by decide+kernel
 exact congrArg Fin.val (this ⟨i,a⟩ ⟨j,b⟩ (VQ h))
theorem Bu (b:Bool)(f:Str):SO (if b then[f]else[]) (if b then[f]else[]):=by
 cases b
 .exact⟨rfl,by show 0<=1;decide,by show 0<=2;decide,List.Pairwise.nil⟩
 .exact⟨rfl,by show 1<=1;decide,by show 1<=2;decide,iu _ _⟩
def dB (p:Str):Prop:=∀k,k<10->ZY (nmO p k)=Z7
def cU (p:Str)(hs:dB p)(k:Nat)(w:Int):Op where
 n:=nmO p (1+k%4)
 fs:=if decide (w=0)then[nmO p 0]else[]
 gs:=if decide (w=1)then[nmO p 0]else[]
 sf:=if decide (w=0)then[nmO p 0]else[]
 sg:=if decide (w=1)then[nmO p 0]else[]
 of:=Bu _ _
 og:=Bu _ _
 so:=hs _ (by omega)
def bL (c:Int)(k:Nat):Int:=mU c k%3
def opsL (p:Str)(hs:dB p)(c:Int)(m:Nat):List Op:=(cc m).map λk=>cU p hs k (bL c k)
def dI (p:Str):List Rw5:=[.wd (nmO p 6) (.at (nmO p 0) 2),.cl (nmO p 7) (.so (.is (nmO p 1))),.cl (nmO p 8) (.al (.is (nmO p 6)))]
def rwsO (p:Str)(hs:dB p)(c:Int)(m:Nat):List Rw5:=.fa (nmO p 0)::((opsL p hs c m).map .op++dI p)
def nmD (p:Str):D:=.list (((cc 10).map (nmO p)).map .str)
theorem VR {k:Nat}(hk:k<10):eR (nmD p) (.int k)=.ok (.str (nmO p k)):=by
 have:=Sr (ns:=(cc 10).map (nmO p)) (i:=k) (by omega) (by grind);unfold nmD;rw[this]
 congr 2
 rw[az,ar,show((k:Int).toNat)=k from rfl,i5 hk];rfl
theorem tP {k:Nat}(h:a[i]?=Z9 (Z9 (g,nmD p)))(e:Ev [] Φ c a (.int k))(hk:k<10):Vv [] Φ (.ix (.var i) c) a (.str (nmO p k)):=v_ix (z02 h) e (VR hk) rfl
theorem gZ (h:ρ[i]?=Z9 (Z9 (g,nmD p)))(k:Nat)(hk:k<10):Vv [] Φ (.ix (.var i) (.int k)) ρ (.str (nmO p k)):=tP h z05.e hk
theorem VS {xs:List Int}(hs:dB p)(h0:z6r [.list (xs.map .int),.int 0]=.ok (.fr,.int c0))(h1:z6r [.list (xs.map .int),.int 1]=.ok (.fr,.int c1)):Fh [.list (xs.map .int),nmD p]=.ok (.fr,.list ((rwsO p hs c1 (1+c0%4).toNat).map bA)):=by
 refine eL ?_
 let Q:Res Out->Prop:=λz=>z=.ok (.rt .fr (.list ((rwsO p hs c1 (1+c0%4).toNat).map bA)))
 show Q _
 let R:List Nat->Option GD->Option GD->Option GD->Rho:=λpre u4 u5 u6=>[Z9 (.od,.list (xs.map .int)),Z9 (.od,nmD p),Z9 (.al,.int (1+c0%4)),Z9 (.fr,.list (bA (.fa (nmO p 0))::pre.map λk=>opD (cU p hs k (bL c1 k)))),u4,u5,u6]
 refine lU (mL (cF z05.e (cF (z0m (z00 (z02 rfl) (z00 z05.e z09)) rfl h0 rfl).e z05.e (j' (by decide)) rfl).e rfl rfl)) ?_;refine lU (y4 (eC (aJ (cY (aJ cM (aJ (gZ rfl 0 (by decide)) aY))) aY)) rfl) ?_;refine zgp (JO (z00 (z02 rfl) z09) (Es (by omega) (by omega))) (λpre ρ=>∃u4 u5 u6,ρ=R pre u4 u5 u6) ⟨Z8,Z8,Z8,rfl⟩ ?_ ?_
 .rintro pre k post ρ hx ⟨u4,u5,u6,rfl⟩
  have ll:=congrArg tu hx;rw[fz,bq,bu]at ll
  have hk:k<4:=by
   have:k∈cc (1+c0%4).toNat:=by rw[hx];exact bg _ (.head _)
   have:=gf.mp this;omega
  refine⟨_,rfl,.inl ?_⟩;have w3:0<=bL c1 k/\bL c1 k<3:=⟨g8 _ (by decide),gg _ (by decide)⟩
  let L6:D:=.tuple [tS (cU p hs k (bL c1 k)).fs,tS (cU p hs k (bL c1 k)).gs]
  have iL:aL L6=true:=by show(aL (tS _)&&(aL (tS _)&&Z7))=Z7;rw[kQ,kQ];rfl
  have e6:Vv [] [zt,z6r] (.ix (.lst (.cons (.tup (.cons (.tup (.cons (.ix (.var 1) (.int 0)) .nil)) (.cons (.tup .nil) .nil))) (.cons (.tup (.cons (.tup .nil) (.cons (.tup (.cons (.ix (.var 1) (.int 0)) .nil)) .nil))) (.cons (.tup (.cons (.tup .nil) (.cons (.tup .nil) .nil))) .nil)))) (.var 5)) [Z9 (.od,.list (xs.map .int)),Z9 (.od,nmD p),Z9 (.al,.int (1+c0%4)),Z9 (.fr,.list (bA (.fa (nmO p 0))::pre.map λk=>opD (cU p hs k (bL c1 k)))),Z9 (.al,.int k),Z9 (.al,.int (bL c1 k)),u6] L6:=by
   have f:∀{Φ:List Fn} {ρ:Rho},ρ[1]?=Z9 (Z9 (.od,nmD p))->Vv [] Φ (.tup (.cons (.ix (.var 1) (.int 0)) .nil)) ρ (tS [nmO p 0]):=λh=>cY (aJ (gZ h 0 (by decide)) aY);have n:∀{Φ:List Fn} {ρ:Rho},Vv [] Φ (.tup .nil) ρ (tS []):=cY aY;refine v_ix (Ev.of (eC (aJ (cY (aJ (f rfl) (aJ n aY))) (aJ (cY (aJ n (aJ (f rfl) aY))) (aJ (cY (aJ n (aJ n aY))) aY))))) (z02 rfl) ?_ iL;have:bL c1 k=0\/bL c1 k=1\/bL c1 k=2:=by omega
   show _=Res.ok (PyData.tuple [tS (if decide (bL c1 k=0)then[nmO p 0]else[]),tS (if decide (bL c1 k=1)then[nmO p 0]else[])]);rcases this with e|e|e<;>(rw[e];rfl)
  refine⟨_,eS (mL (cF (z0m (z00 (z0m (z00 (z02 rfl) (z00 z05.e z09)) rfl h1 rfl).e (z00 (z02 rfl) z09)) rfl (zI c1 (by omega) (by omega)) rfl).e z05.e (j' (by decide)) rfl)) (eS (mL e6) (eS (JN (x:=opD (cU p hs k (bL c1 k))) (cY (aJ cM (aJ ?_ (aJ (v_ix (z02 rfl) z05.e rfl (kQ _)) (aJ (v_ix (z02 rfl) z05.e rfl (kQ _)) aY))))) rfl ?_) sP)),?_⟩
  .show Vv _ _ _ _ (ZX (nmO p (1+k%4)));refine tP rfl (cF z05.e (z02 rfl) ?_ rfl).e (by omega);show Res.ok (ZV (1+(k:Int)))=_
   congr 2
   rw[n6 hk];omega
  .rw[bu,ae];omega
  .refine⟨eQ (Z9 (.al,.int k)),eQ (Z9 (.al,.int (bL c1 k))),eQ (Z9 (.al,L6)),?_⟩;show _=[_,_,_,Z9 (G.fr,ZW (bA (.fa (nmO p 0))::(pre++[k]).map λk=>opD (cU p hs k (bL c1 k)))),_,_,_];rw[cf];rfl
 .rintro ρ ⟨u4,u5,u6,rfl⟩
  have ln:(bA (.fa (nmO p 0))::(cc (1+c0%4).toNat).map λk=>opD (cU p hs k (bL c1 k))).length<=10:=by rw[bu,ae,fz];omega
  refine lU (JN (x:=iB (nmO p 6) (.at (nmO p 0) 2)) (cY (aJ cM (aJ (gZ rfl 6 (by decide)) (aJ (cY (aJ cM (aJ (gZ rfl 0 (by decide)) (aJ z05 aY)))) aY)))) rfl (by omega)) ?_;refine z0g (EA (λi z=>by cases z) ?_);have is:∀{Φ:List Fn} {ρ:Rho} {k:Nat},ρ[1]?=Z9 (Z9 (.od,nmD p))->k<10->Vv [] Φ (.tup (.cons (.str "is") (.cons (.ix (.var 1) (.int k)) .nil))) ρ (kR (.is (nmO p k))):=λh hk=>cY (aJ cM (aJ (gZ h _ hk) aY));have e:(rwsO p hs c1 (1+c0%4).toNat).map bA=((bA (.fa (nmO p 0))::(cc (1+c0%4).toNat).map λk=>opD (cU p hs k (bL c1 k)))++[iB (nmO p 6) (.at (nmO p 0) 2)])++[bA (.cl (nmO p 7) (.so (.is (nmO p 1)))),bA (.cl (nmO p 8) (.al (.is (nmO p 6))))]:=by show bA _::((opsL p hs c1 (1+c0%4).toNat).map Rw5.op++dI p).map bA=_;unfold opsL;rw[cf,dh,dh,rj,rj,gw];rfl
  rw[e];refine sM (z02 rfl) (Ev.of (eC (aJ (cY (aJ cM (aJ (gZ rfl 7 (by decide)) (aJ (cY (aJ cM (aJ (is rfl (by decide)) aY))) aY)))) (aJ (cY (aJ cM (aJ (gZ rfl 8 (by decide)) (aJ (cY (aJ cM (aJ (is rfl (by decide)) aY))) aY)))) aY)))) (add_list ?_) ?_
  .rw[bq];have a1:[iB (nmO p 6) (.at (nmO p 0) 2)].length=1:=rfl;show _+2<=_;omega
  .rw[<-e];exact vL vS _
theorem LU (b:Bool)(h:f∉ws)(a:f∉ws')(h0:0<=look t f)(d:0<=look c f):wi (cv ws t (if b then[f]else[])) (cv ws' c (if b then[f]else[]))=Z7↔(b=Z7->look t f<=look c f):=by
 have pw:=λb=>(Bu b f).pw;rw[vJ (vO (pw b)) (vO (pw b))];have e:∀{ws:List Str} {t:P},f∉ws->vv ws t f=look t f:=λh=>yb h;constructor
 .intro g hb;have:=g f;subst hb;rw[zx (pw Z7),zx (pw Z7)]at this;rw[ya (.head _),e h,e a]at this;omega
 .intro g n;rw[zx (pw b),zx (pw b)];cases b with
  |false=>exact jy _
  |true=>
   have g:=g rfl;by_cases hn:n∈[f]
   .cases ag.mp hn;show(if f∈[f]then _ else _)<=(if f∈[f]then _ else _);rw[ya hn,ya hn,e h,e a];omega
   .show(if n∈ [f]then _ else _)<=(if n∈ [f]then _ else _);rw[yb hn,yb hn];simp_all
def tQ (f:Str)(w:Int)(t:P):Int:=if w=0 then look t f else if w=1 then -look t f else 0
section
variable {p:Str}{hs:dB p}{k:Nat}{w:Int}
theorem VT (h:nmO p 0∉ws)(e:nmO p 0∉ws')(h0:0<=look t (nmO p 0))(b:0<=look c (nmO p 0)):stC (cZ (cU p hs k w) t ws) (cZ (cU p hs k w) c ws')=Z7↔tQ (nmO p 0) w t<=tQ (nmO p 0) w c:=by
 show(wi (cv ws t (if decide (w=0)then[nmO p 0]else[])) (cv ws' c (if decide (w=0)then[nmO p 0]else[]))&&wi (cv ws' c (if decide (w=1)then[nmO p 0]else[])) (cv ws t (if decide (w=1)then[nmO p 0]else[])))=Z7↔_;rw[bn,LU _ h e h0 b,LU _ e h b h0];unfold tQ;by_cases a:w=0
 .rw[ya a,ya a,yf a,yg (by omega)];exact⟨λg=>g.1 rfl,λg=>⟨λ_=>g,λz=>by cases z⟩⟩
 .rw[yb a,yb a,yg a];by_cases d:w=1
  .rw[yf d];exact⟨λg=>by have:=g.2 rfl;omega,λg=>⟨nofun,λ_=>by omega⟩⟩
  .rw[yb d,yb d,yg d];exact⟨λ_=>jy _,λ_=>⟨nofun,λz=>by cases z⟩⟩
def nW (w:Int)(ss zs:List Int):Nat:=if ss=[]then 1 else if w=2 then 2 else 1+zs.length
theorem VU (hw:w=0\/w=1\/w=2)(h0:∀t∈c,0<=look t (nmO p 0))(o:zs.Perm (dJ [] (c.map λt=>look t (nmO p 0))))(hx:Iv (nmO p 0) ns c.length x)(hn:(cU p hs k w).n∉ns):(z1n (cU p hs k w) [] c [x]).length=nW w (c.map λt=>look t (nmO p 0)) zs:=by
 have f:=λt ht r i ws d h s=>VT (hs:=hs) (k:=k) (w:=w) (ws:=ws) (ws':=d) h s (h0 t ht) (h0 r i);obtain⟨nd,mem,_⟩:=AR (c.map λt=>look t (nmO p 0)) [] gy;have q:=o.symm.nodup nd;have j:∀z,z∈zs↔z∈c.map λt=>look t (nmO p 0):=λz=>by rw[o.mem_iff,mem];exact⟨λg=>g.elim nofun id,.inr⟩
 unfold nW;by_cases e:c=[]
 .subst e;exact Bt f gy (λz=>Iff.rfl) hx hn
 .rw[yb λz=>e (List.map_eq_nil_iff.mp z)];rcases hw with rfl|rfl|rfl
  .rw[yb (by decide)];exact Bt f q (λz=>j z) hx hn
  .rw[yb (by decide)];have:=Bt (zs:=zs.map λz=>-z) f (jp.mpr (q.imp λ{a b} m e=>m (by omega))) (λz=>?_) hx hn
   .rw[this,ae]
   .rw[av,av];constructor
    .rintro⟨a,u,rfl⟩
     obtain⟨t,ht,rfl⟩:=av.mp ((j a).mp u);exact⟨t,ht,rfl⟩
    .rintro⟨t,ht,rfl⟩
     exact⟨look t (nmO p 0),(j _).mpr (av.mpr ⟨t,ht,rfl⟩),rfl⟩
  .rw[ya rfl];refine Bt (zs:=[0]) f (cz.mpr ⟨nofun,gy⟩) (λz=>?_) hx hn;rw[ag,av];constructor
   .rintro rfl
    cases c with
    |nil=>exact absurd rfl e
    |cons t l=>exact⟨t,.head _,rfl⟩
   .rintro⟨t,_,rfl⟩;rfl
def kM (p:Str)(b:Bool):P:=if b then[(nmO p 0,1000000000000000000000000000000)]else[]
theorem F9 (p:Str)(b:Bool):PK (kM p b):=by
 cases b
 .exact⟨List.Pairwise.nil,λ_ h=>by cases h⟩
 .exact⟨iu _ _,λq h=>by rw[ag.mp h];show(0:Int)<1000000000000000000000000000000;decide⟩
theorem Ga:PK []:=⟨List.Pairwise.nil,λ_ h=>by cases h⟩
def tR (p:Str)(w:Int):Ru:=(Z7,⟨[],Ga,by decide⟩,⟨kM p (decide (w=1)),F9 p _,by cases decide (w=1)<;>(unfold kM;simp)⟩,⟨[],Ga,by decide⟩)
theorem VV (h:nmO p 0∉ws)(a:look t (nmO p 0)<=1000000000000000000000000000000):eT (tR p w) (cZ (cU p hs k w) t ws)=true:=by
 show(wi [] (cv ws t (if decide (w=0)then[nmO p 0]else[]))&&wi (cv ws t (if decide (w=1)then[nmO p 0]else[])) (kM p (decide (w=1))))=Z7;have pw:∀b:Bool,(if b then[nmO p 0]else[]).Pairwise sl:=λb=>(Bu b _).pw;rw[bn];refine⟨rfl,(vJ (vO (pw _)) (F9 p _)).mpr λn=>?_⟩;rw[zx (pw _)];cases decide (w=1)with
 |false=>exact jy _
 |true=>
  show(if n∈[nmO p 0]then _ else _)<=look [(nmO p 0,1000000000000000000000000000000)] n;by_cases hn:n∈[nmO p 0]
  .rw[ya hn];cases ag.mp hn;have e:look [(nmO p 0,1000000000000000000000000000000)] (nmO p 0)=1000000000000000000000000000000:=by have:=yT (l:=[(nmO p 0,1000000000000000000000000000000)]) (F9 p Z7).nd (.head _);show(fnd _ (nmO p 0)).getD 0=_;rw[this];rfl
   rw[show vv ws t (nmO p 0)=look t (nmO p 0)from yb h];omega
  .rw[yb hn,look,z24 λz=>hn z];exact jy _
theorem VW (b:∀t∈a,look t (nmO p 0)<=1000000000000000000000000000000)(hx:Iv (nmO p 0) ns a.length x)(hk:k<4):(z1n (cU p hs k w) [tR p w] a [x]).length=1:=VO (λt ht ws hw=>VV hw (b t ht)) (λz=>by have:=pH (by omega) (by decide) z;omega) hx
end
def bZ (p:Str)(c:Int):P:=if 0<c then[(nmO p 0,c)]else[]
theorem LV (p:Str)(c:Int):PK (bZ p c):=by
 unfold bZ;split
 .rename_i h;exact⟨iu _ _,λq a=>by rw[ag.mp a];exact h⟩
 .exact Ga
theorem LW (p:Str)(h:0<=c):look (bZ p c) (nmO p 0)=c:=by
 unfold bZ;split
 .rename_i h;have:=yT (l:=[(nmO p 0,c)]) (cz.mpr ⟨nofun,gy⟩) (.head _);show(fnd _ (nmO p 0)).getD 0=_;rw[this];rfl
 .show 0=c;omega
theorem VX (p:Str)(h:0<=c):(bZ p c).map (λq:Str×Int=>ZV q.2)=[c].map .int\/(c=0/\(bZ p c).map (λq:Str×Int=>ZV q.2)=[]):=by
 unfold bZ;split
 .exact .inl rfl
 .exact .inr ⟨by omega,rfl⟩
theorem VY (p:Str){cs:List Int}(h:∀c∈cs,0<=c):((cs.map (bZ p)).map λt=>look t (nmO p 0))=cs:=by
 rw[dh]
 conv=>rhs;rw[<-t9 cs]
 exact i6 λc hc=>LW p (h c hc)
abbrev thD (p:Str)(cs:List Int):D:=.list ((cs.map (bZ p)).map pk)
structure LX (K:Z5)(H:Hp)(p:Str)(hs:dB p)(k:Nat)(w:Int)(cs:List Int)(vr vt:V):Prop where
 rr:Rep K H AnyB vr (opD (cU p hs k w))
 rt:Rep K H AnyB vt (thD p cs)
 hw:w=0\/w=1\/w=2
 hc:∀c∈cs,0<=c
 hl:cs.length<=6
def spWs (K:Z5):Sp:=λvs H Q _=>∃p hs k w cs vr vt,vs=[vr,vt]/\LX K H p hs k w cs vr vt/\∀H' (zs:List Int),Same H H'->zs.length=(dJ [] cs).length->Q (.int (nW w cs zs)) H'
theorem VZ (hc:∀c∈cs,0<=c)(h1:ρ[1]?=Z9 (Z9 (.od,thD p cs))):aF [] [] L66.FE ρ=.ok (.fr,.list (cs.map .int)):=by
 have hx:=z1f (Κ:=[]) (Φ:=[]) (nt:=1) (js:=[]) (N':=["_law_thing"]) (tg:=.nm 0) (elt:=.gB "sum" (.tv (.comp 2 [] ["_law_name_here","_law_count"] (.tp [0,1]) (.tv (.var 0)) .nil (.var 1)))) (λ_=>Z7) (λc=>.int c) (bR (by rw[mK];rw[h1];rfl) rfl) (by rw[dh];rfl) (λc=>[Z9 (.al,pk (bZ p c))]) (λc _=>pD (eF _)) (λ_ _=>oV) λc jZ _=>by
  have h2:=z1f (Κ:=[]) (Φ:=[]) (ρ:=[Z9 (.al,pk (bZ p c))]) (nt:=2) (js:=[]) (N':=["_law_name_here","_law_count"]) (it:=.tv (.var 0)) (elt:=.var 1) (λ_=>Z7) (λq=>.int q.2) (bR (v_var rfl (eF _)).1 rfl) rfl (λq=>[Z9 (.al,.str q.1),Z9 (.al,.int q.2)]) (λq _=>Uo q Z8 Z8 []) (λ_ _=>oV) λq _ _=>v_var rfl rfl;rw[fg.mpr λ_ _=>rfl]at h2;rcases VX p (hc c jZ)with e|⟨e0,e⟩
  .rw[e]at h2;refine pW (Ev.of h2) rfl ?_ rfl;show Res.ok (ZV (c+0))=_;rw[Int.add_zero]
  .subst e0;exact pW (Ev.of h2) rfl rfl rfl
 rw[fg.mpr λ_ _=>rfl]at hx;exact hx
theorem V0 (p:Str)(cs:List Int):cmpD .Eq (thD p cs) (.list [])=.ok (decide (cs=[])):=by rw[Fo _ (nN.mpr λx hx=>by obtain⟨t,_,rfl⟩:=av.mp hx;exact Bq 37 t)];cases cs<;>rfl
theorem LY (b:Bool)(f:Str):cmpD .Eq (tS (if b then[f]else[])) (.tuple [])=.ok (!b):=by cases b<;>rfl
theorem V1 {Z:Wc}{H:Hp}{D0:Ends}{p:Str}{hs:dB p}{k:Nat}{w:Int}{cs:List Int}{vr vt:V}(hκ:Z.Κ=[])(hφ:Z.Φ=[])(a:LX Z.K H p hs k w cs vr vt)(q:∀H' (zs:List Int),Same H H'->zs.length=(dJ [] cs).length->D0.rt (.int (nW w cs zs)) H'):wS Z L66.ws D0 [Z9 vr,Z9 vt,Z8] H:=by
 have sl:∀{H':Hp} {o:Option V} {r:Option GD},Same H H'->Sl Z.K H' [o] [r]->Sl Z.K H' [Z9 vr,Z9 vt,o] [Z9 (.od,opD (cU p hs k w)),Z9 (.od,thD p cs),r]:=λ{H' o r} s t=>.da (a.rr.same (B':=AnyB) s λ_ z=>z) (.da (a.rt.same (B':=AnyB) s λ_ z=>z) t);refine dH ?_;show wE Z (.pur L66.FE) _ H _;refine eD hκ hφ (sl (Same.refl H) (.no .nil)) (d:=.list (cs.map .int)) (Ev.of (VZ a.hc rfl)) λv1 H1 s1 r1=>⟨_,cs,r1,by have:=a.hl;omega,λv2 zs H2 s2 pz r2=>?_⟩;have pI:=s1.trans s2;have lz:zs.length<=6:=by have:=AU cs [];have h6:=a.hl;rw[pz];simp only[ox]at this;omega
 show wS Z _ D0 [Z9 vr,Z9 vt,Z9 v2] H2;have Ay:∀{H':Hp},Same H2 H'->Sl Z.K H' [Z9 vr,Z9 vt,Z9 v2] [Z9 (.od,opD (cU p hs k w)),Z9 (.od,thD p cs),Z9 (.od,.list (zs.map .int))]:=λ{H'} s=>sl (pI.trans s) (.da (r2.same s λ_ z=>z) .nil);refine bG (dC (fK hκ hφ (Ay (Same.refl H2)) (b:=decide (cs=[])) (aN (z0l (k:=decide (cs=[])) (z02 rfl) (Ev.of (eC aY)) (V0 p cs)).e rfl) λH3 s3=>?_));have fin:∀{n:Int} {H4:Hp} {D1:Ends} {c:C},D1.rt=D0.rt->Same H2 H4->n=nW w cs zs->Ev [] [] c [Z9 (.od,opD (cU p hs k w)),Z9 (.od,thD p cs),Z9 (.od,.list (zs.map .int))] (.int n)->wS Z (.seq (.ret (.pur c)) .nil) D1 [Z9 vr,Z9 vt,Z9 v2] H4:=λ{n H4 D1 c} er s4 en ev=>by refine iD (eD hκ hφ (Ay s4) (d:=.int n) ev λv H5 s5 r5=>?_);cases r5;rw[er,en];exact q H5 zs (pI.trans (s4.trans s5)) pz
 by_cases e:cs=[]
 .rw[ya (yf e)];exact fin rfl s3 (by unfold nW;rw[ya e];rfl) z05.e
 rw[yb (by rw[yg e];decide)];refine bU Z (bG (dC (fK hκ hφ (Ay s3) (b:=decide (w=2)) ?_ λH4 s4=>?_)))
 .have h:=sO (Κ:=[]) (Φ:=[]) (ρ:=[Z9 (.od,opD (cU p hs k w)),Z9 (.od,thD p cs),Z9 (.od,.list (zs.map .int))]) (a:=.tv (.cmp .Eq (.ix (.var 0) (.int 2)) (.tup .nil))) (b:=.tv (.cmp .Eq (.ix (.var 0) (.int 3)) (.tup .nil))) (k:= !decide (w=0)) (k':= !decide (w=1)) (aN (z0l (k:= !decide (w=0)) (v_ix (d:=tS (cU p hs k w).fs) (z02 rfl) z05.e rfl (kQ _)).e (cY aY).e (LY _ _)).e rfl) λ_=>aN (z0l (k:= !decide (w=1)) (v_ix (d:=tS (cU p hs k w).gs) (z02 rfl) z05.e rfl (kQ _)).e (cY aY).e (LY _ _)).e rfl;have e2:(!decide (w=0)&& !decide (w=1))=decide (w=2):=by rcases a.hw with rfl|rfl|rfl<;>rfl
  rw[e2]at h;exact h
 .by_cases e2:w=2
  .rw[ya (yf e2)];exact fin rfl (s3.trans s4) (by unfold nW;rw[yb e,ya e2];rfl) z05.e
  .rw[yb (by rw[yg e2];decide)];refine bU Z (fin rfl (s3.trans s4) ?_ (cF z05.e (fB (d:=.int zs.length) (z00 (z02 rfl) z09) (Uy zs) rfl).e rfl rfl).e);unfold nW;rw[yb e,yb e2];simp
theorem LZ {rest:WS}(q:wS {Z with E:=wX Z hs ⟨wS Z rest D0,D0.rt,D0.bk,D0.ct⟩ i (qD (sets b) 0 σ)} b ⟨wS Z rest D0,D0.rt,λ_ _=>False,λ_ _=>False⟩ σ H):wS Z (.seq (.qC b hs i n) rest) D0 σ H:=q
theorem sS (s:Same H b)(h:b dp=Z8):Same H (iC (upd b dp o) dp):=λa u e=>by
 have ne:a≠dp:=λz=>by rw[<-z,s a u e]at h;cases h
 show(if a=dp then Z8 else upd b dp o a)=_;rw[yb ne,aB ne];exact s a u e
theorem tT:Vv [] Φ (.jP b x) a (.bool b):=⟨rfl,rfl⟩
def L0:ZY "much"=true:=by decide+kernel
def L1:ZY "unknown "=true:=by decide+kernel
def Gb:ZY ""=true:=by decide+kernel
section
variable {Z:Wc}{D0:Ends}{σ:L2.St}{H:Hp}
theorem tN (a:Z.Κ=[])(d:Z.Φ=Φ)(e:Tt [] Φ c (bo σ.length Z8) b)(q:∀f,Same H f->R b f):wT Z (.tp c) σ H R:=fK a d (Lf σ) e q
theorem V2 (a:Z.Κ=[])(b:Z.Φ=[])(q:∀c,Same H c->D0.rt (.str "much") c):wS Z (L66.tI Z7 Z6 L66.rB) D0 σ H:=by refine bG (dC (tN a b (rV (aN tT.e rfl)) λi d=>bU Z ?_));refine bG (dC (tN a b (sO (k':=Z6) (aN tT.e rfl) λz=>by cases z) λj f=>bU Z ?_));refine iD (eD a b (Lf σ) (v_ix (Ev.of (eC (aJ cM (aJ cM aY)))) (fB (z00 (v_and tT.e λ_=>v_not tT.e rfl).e z09) rfl rfl).e rfl rfl).e λv g h r=>?_);obtain⟨rfl,_⟩:=r;exact q g (d.trans (f.trans h))
theorem V3 (a:Z.Κ=[])(b:Z.Φ=[])(hx:Z.xf=Z9 (.str cl))(hc:ZY cl=Z7)(hl:cl.length<=100)(q:∀c,Same H c->D0.rt (.str ("unknown "++cl)) c):wS Z (L66.tI Z6 Z7 (.seq (.ret (.bin .Add (.pur (.str "unknown ")) (.gA "name"))) .nil)) D0 σ H:=by
 refine bG (dC (tN a b (rV (aN tT.e rfl)) λj d=>bU Z ?_));refine bG (dC (tN a b (sO (aN tT.e rfl) λ_=>rV (aN tT.e rfl)) λk f=>?_));refine iD (zd L1 λl g=>Ue hx ⟨AnyB,AnyB,.str "unknown ",.str cl,.str ("unknown "++cl),⟨rfl,L1⟩,⟨rfl,hc⟩,add_str ?_,λw h i r _=>?_⟩)
 .show 8+cl.length<=1000;omega
 .obtain⟨rfl,_⟩:=r;exact q h (d.trans (f.trans (g.trans i)))
end
def mV (rows:List Rw5)(n:Nat)(cl:Str):Str:=if cN rows cl=Z8 then "unknown "++cl else if nu rows n<=8 then ""else "much"
def fD (rows:List Rw5)(n:Nat):Str:=if nu rows n<=8 then ""else "much"
def spRf (K:Z5):Sp:=λvs H Q _=>∃rows es bk hd fa va vb vt vc,vs=[va,vb,vt,vc]/\RgA K H rows es bk hd fa va vb vt/\((vc=.non/\∀H',Same H H'->Q (.str (fD rows hd.length)) H')\/∃cl f,vc=.str cl/\zE K H rows es bk hd fa cl f va vb vt/\cl.length<=100/\∀H',Same H H'->Q (.str (mV rows hd.length cl)) H')
section
variable {Z:Wc}{H:Hp}{D0:Ends}{rows:List Rw5}{es:bF}{bk:Str->List Ru}{hd:List P}{fa:P->P}{va vb vt vc:V}
theorem zpr (hκ:Z.Κ=[])(hφ:Z.Φ=[])(f0:Z.fn[0]?=Z9 (spRd Z.K Z.mg))(f1:Z.fn[1]?=Z9 (spSe Z.K Z.mg))(a:RgA Z.K H rows es bk hd fa va vb vt)
  (q:(vc=.non/\∀H',Same H H'->D0.rt (.str (fD rows hd.length)) H')\/∃cl f,vc=.str cl/\zE Z.K H rows es bk hd fa cl f va vb vt/\cl.length<=100/\∀H',Same H H'->D0.rt (.str (mV rows hd.length cl)) H'):wS Z L66.rf D0 [Z9 va,Z9 vb,Z9 vt,Z9 vc,Z8] H:=by
 refine LZ ?_;have mu:∀{l':WS} {D':Ends} {σ:L2.St} {C:Addr} {H':Hp},Z.mg "TooMuch"=Z9 (.ref C)->D'.rt=D0.rt->(∀dM,Same H' dM->D0.rt (.str "much") dM)->wX Z (.hn "TooMuch" Z8 (L66.tI Z7 Z6 L66.rB) l') D' 4 σ (.ref C) Z8 H':=λ{l' D' σ C H'} hC er k=>.inl ⟨C,hC,rfl,V2 (Z:={Z with E:=λ_ _ _=>False,xf:=Z8}) hκ hφ λdM s=>by rw[er];exact k dM s⟩;have un:∀{D':Ends} {σ:L2.St} {C dp:Addr} {H':Hp} {cl:Str},Z.mg "Unknown"=Z9 (.ref C)->D'.rt=D0.rt->ZY cl=Z7->cl.length<=100->H' dp=Z8->(∀dM,Same (iC (upd H' dp (.xd [("name",.str cl)])) dp) dM->D0.rt (.str ("unknown "++cl)) dM)->wX Z (.hn "TooMuch" Z8 (L66.tI Z7 Z6 L66.rB) (.hn "Unknown" (Z9 "name") (L66.tI Z6 Z7 (.seq (.ret (.bin .Add (.pur (.str "unknown ")) (.gA "name"))) .nil)) .nil)) D' 4 σ (.ref C) (Z9 dp) (upd H' dp (.xd [("name",.str cl)])):=λ{D' σ C dp H' cl} hC er ok hl hd k=>.inr (.inl ⟨C,hC,rfl,dp,.str cl,rfl,aT,V3 (Z:={Z with E:=λ_ _ _=>False,xf:=Z9 (.str cl)}) hκ hφ rfl ok hl λdM s=>by rw[er];exact k dM s⟩);have fin:∀{H':Hp},Same H H'->(∀dM,Same H dM->D0.rt (.str "") dM)->wS Z (.seq (.ret (.pur (.str ""))) .nil) D0 [Z9 va,Z9 vb,Z9 vt,Z9 vc,Z8] H':=λ{H'} s k=>iD (zd Gb λdM s'=>k dM (s.trans s'));refine bG (dC ⟨vc,rfl,decide (vc=.non),rfl,?_⟩);rcases q with⟨rfl,q⟩|⟨cl,f,rfl,sa,hl,q⟩
 .refine bG (iE f0 (aV (aQ rfl (aV (aQ rfl (aV (aQ rfl (dN ⟨rows,es,bk,hd,fa,va,vb,vt,rfl,a,λnb H1 u s1 _=>?_,λbig C H1 hC s1=>?_⟩))))))))
  .refine fin s1 λdM s=>?_;have:=q dM s;unfold fD at this;rw[ya nb]at this;exact this
  .refine mu hC rfl λdM s=>?_;have:=q dM (s1.trans s);unfold fD at this;rw[yb (by omega)]at this;exact this
 .refine bG (iE f1 (aV (aQ rfl (aV (aQ rfl (aV (aQ rfl (aV (aQ rfl (dN ⟨rows,es,bk,hd,fa,cl,f,va,vb,vt,rfl,sa,λask ha nb H1 t p ws _ _ s1 _ _ _ _=>?_,λask ha big C H1 hC s1=>?_,λhn C H1 dp hC s1 sT=>?_⟩))))))))))
  .refine fin s1 λdM s=>?_;have:=q dM s;unfold mV at this;rw[yb (ha▸λz=>by cases z),ya nb]at this;exact this
  .refine mu hC rfl λdM s=>?_;have:=q dM (s1.trans s);unfold mV at this;rw[yb (ha▸λz=>by cases z),yb (by omega)]at this;exact this
  .refine un hC rfl sa.sc hl sT λdM s=>?_;have:=q dM ((sS s1 sT).trans s);unfold mV at this;rw[ya hn]at this;exact this
end
def fE (rows:List Rw5)(c:Str):List Ak:=rows.filterMap (fL c)
def L3:Rw5->D
 |.cl _ a=>jB a
 |_=>.none
theorem L4 (c:Str):∀rows:List Rw5,(rows.filter λr=>(fL c r).isSome).map L3=(fE rows c).map jB
 | []=>rfl
 |r::rows=>by
  have ih:=L4 c rows;unfold fE at ih ⊢;cases r with
  |op o=>exact ih
  |wd n s=>exact ih
  |fa n=>exact ih
  |cl n a=>
   by_cases e:n=c
   .have h:fL c (.cl n a)=Z9 a:=ya e;rw[mi (by rw[h];rfl),dr,h,br,ih];rfl
   .have h:fL c (.cl n a)=none:=yb e;rw[ip (by rw[h];decide),dr,h,ih]
theorem V4 (h0:f[0]?=Z9 (Z9 (.od,.list (d.map bA))))(g:bW (f.getD 1 Z8)=Z9 (.od,.str c)):aF [] [] L66.K8 f=.ok (.fr,.list ((fE d c).map jB)):=by
 have hx:=z1f (Κ:=[]) (Φ:=[]) (nt:=1) (js:=[1]) (N':=["_law_row","_law_name_here"]) (cond:=.and (.tv (.cmp .Eq (.ix (.var 0) (.int 0)) (.str "claim"))) (.tv (.cmp .Eq (.ix (.var 0) (.int 1)) (.var 1)))) (elt:=.ix (.var 0) (.int 2)) (λr=>(fL c r).isSome) L3 (bR (by rw[mK];rw[h0];rfl) rfl) rfl (λr=>[Z9 (.al,bA r),Z9 (.od,.str c)]) (λr _=>by show dQ (.nm 0) _ [Z8,bW (f.getD 1 Z8)]=_;rw[g];exact pD (vS r)) (λr _=>?_) λr _ hr=>?_
 .rw[L4]at hx;exact hx
 .have i:∀{s:Str},eR (bA r) (.int 0)=.ok (.str s)->Tt [] [] (.tv (.cmp .Eq (.ix (.var 0) (.int 0)) (.str "claim"))) [Z9 (.al,bA r),Z9 (.od,.str c)] (decide (s="claim")):=λ{s} h=>aN (z0l (k:=decide (s="claim")) (v_ix (z02 rfl) z05.e h rfl).e cM.e (by show Res.ok _=_;rw[kP])).e rfl;have b:∀{s:Str},eR (bA r) (.int 0)=.ok (.str s)->s≠"claim"->Tt [] [] (.and (.tv (.cmp .Eq (.ix (.var 0) (.int 0)) (.str "claim"))) (.tv (.cmp .Eq (.ix (.var 0) (.int 1)) (.var 1)))) [Z9 (.al,bA r),Z9 (.od,.str c)] false:=λ{s} g j=>sO (k':=Z6) (yg j▸i g) λz=>by cases z
  cases r with
  |op o=>exact b rfl (by decide)
  |wd n s=>exact b rfl (by decide)
  |fa n=>exact b rfl (by decide)
  |cl n a=>
   have t1:Tt [] [] (.tv (.cmp .Eq (.ix (.var 0) (.int 1)) (.var 1))) [Z9 (.al,bA (.cl n a)),Z9 (.od,.str c)] (decide (n=c)):=aN (z0l (k:=decide (n=c)) (v_ix (z02 rfl) z05.e rfl rfl).e (z02 rfl) (by show Res.ok _=_;rw[kP])).e rfl;have:=sO (i rfl) λ_=>t1
   have e:(decide (("claim":Str)="claim")&&decide (n=c))=(fL c (.cl n a)).isSome:=by
    show decide (n=c)=(if n=c then Z9 a else Z8).isSome;by_cases z:n=c
    .rw[ya z,yf z];rfl
    .rw[yb z,yg z];rfl
   rw[e]at this;exact this
 .cases r with
  |op o=>cases hr
  |wd n s=>cases hr
  |fa n=>cases hr
  |cl n a=>exact v_ix (z02 rfl) z05.e rfl (Bi a)
theorem V5 (h:(fE b c).length<=1):fE b c=(cN b c).toList:=by
 unfold fE cN at *
 induction b with
 |nil=>rfl
 |cons r b d=>
  rw[dr]at h ⊢;rw[uq];cases e:fL c r with
  |none=>rw[e]at h;exact d h
  |some a=>rw[e]at h;show a::b.filterMap (fL c)=[a];rw[io.mp (by rw[bu]at h;omega:(b.filterMap (fL c)).length=0)]
structure Ge (K:Z5)(H:Hp)(rows:List Rw5)(cl:Str)(va:V):Prop where
 ra:Rep K H AnyB va (.list (rows.map bA))
 sc:ZY cl=Z7
 one:(fE rows cl).length<=1
 eq:∀a,cN rows cl=Z9 a->cmpD .Eq (.list [jB a]) (.list [jB a])=.ok Z7
def spAs (K:Z5):Sp:=λvs H Q _=>∃rows cl va,vs=[va,.str cl]/\Ge K H rows cl va/\∀H',Same H H'->Q (.bl Z7) H'
theorem V6 (hκ:Z.Κ=[])(hφ:Z.Φ=[])(f0:Z.fn[0]?=Z9 (tM Z.K Z.mg))(a:Ge Z.K H rows cl va)(q:∀H',Same H H'->D0.rt (.bl Z7) H'):wS Z L66.asg D0 [Z9 va,Z9 (.str cl),Z8,Z8,Z8] H:=by
 have mS:=a.sc;have sl:∀{H':Hp} {o2 o3 o4:Option V} {r2 r3 r4:Option GD},Same H H'->Sl Z.K H' [o2,o3,o4] [r2,r3,r4]->Sl Z.K H' [Z9 va,Z9 (.str cl),o2,o3,o4] [Z9 (.od,.list (rows.map bA)),Z9 (.od,.str cl),r2,r3,r4]:=λ{H' o2 o3 o4 r2 r3 r4} s t=>.da (a.ra.same s λ_ z=>z) (.da (B:=AnyB) ⟨rfl,mS⟩ t);refine dH (eD hκ hφ (sl (Same.refl H) (.no (.no (.no .nil)))) (d:=.list ((fE rows cl).map jB)) (Ev.of (V4 rfl rfl)) λv2 H1 s1 r2=>?_);rw[V5 a.one]at r2;refine LZ (iE f0 (aV (aQ rfl (aV (aQ rfl (dN ⟨rows,cl,va,rfl,mS,a.ra.same s1 λ_ z=>z,λask ha H2 u s2 ru=>?_,λhn C H2 dp hC s2 sT=>?_⟩))))))
 .show wS Z (.seq (.ret (.pur (.cmp .Eq (.var 2) (.lst (.cons (.var 3) .nil))))) .nil) D0 [Z9 va,Z9 (.str cl),Z9 v2,Z9 u,Z8] H2;rw[ha]at r2;refine iD (eD hκ hφ (sl (s1.trans s2) (.da (r2.same s2 λ_ z=>z) (.da ru (.no .nil)))) (z0l (z02 rfl) (Ev.of (eC (aJ (v_var rfl (Bi ask)) aY))) (a.eq ask ha)).e λv H3 s3 r3=>?_);cases r3;exact q H3 (s1.trans (s2.trans s3))
 .rw[hn]at r2;have sh:=sS (o:=.xd [("name",.str cl)]) s2 sT;refine .inl ⟨C,hC,rfl,dp,.str cl,rfl,aT,?_⟩;refine iD (Uk (eD hκ hφ (sl (s1.trans sh) (.da (r2.same sh λ_ z=>z) (.no (.no .nil)))) (z0l (z02 rfl) (Ev.of (eC aY)) rfl).e λv H3 s3 r3=>?_));cases r3;refine⟨Z7,rfl,?_⟩;refine⟨.str cl,rfl,sV (B:=AnyB) (B':=AnyB) (dx:=.str cl) (dy:=.str cl) ⟨rfl,mS⟩ ⟨rfl,mS⟩ (by show Res.ok (dV (.str cl) (.str cl))=_;rw[kP,yf rfl]) λH4 s4=>?_⟩;exact q H4 (s1.trans (sh.trans (s3.trans s4)))
abbrev Bs:=List (Str×List Ru)
def iF (bs:Bs):bF:=bs.map λe=>(.str e.1,.list (e.2.map cC))
def hF (bs:Bs)(n:Str)(rs:List Ru):Bs:=if(bs.any λe=>decide (e.1=n))=Z7 then bs.map (λe=>if e.1=n then(e.1,rs)else e)else bs++[(n,rs)]
def cQ (bs:Bs)(n:Str):List Ru:=((bs.find? λe=>decide (e.1=n)).map (·.2)).getD []
theorem L5 (n:Str):∀bs,((iF bs).any λe=>eqK e.1 (.str n))=bs.any λe=>decide (e.1=n)
 | []=>rfl
 |e::bs=>by show(eqK (.str e.1) (.str n)||(iF bs).any _)=_;rw[L5 n bs];rfl
theorem V7 (bs:Bs)(n:Str)(rs:List Ru):dput (iF bs) (.str n) (.list (rs.map cC))=iF (hF bs n rs):=by
 unfold dput hF;rw[L5];split
 .unfold iF;rw[dh,dh];refine i6 λe _=>?_;show(if eqK (.str e.1) (.str n)=Z7 then _ else _)=_;rw[uZ];by_cases h:e.1=n
  .rw[ya (yf h)];show _=((λe:Str×List Ru=>((ZX e.1,ZW (e.2.map cC)):D×D)) (if e.1=n then(e.1,rs)else e));rw[ya h]
  .rw[yb (by rw[yg h];decide)];show _=((λe:Str×List Ru=>((ZX e.1,ZW (e.2.map cC)):D×D)) (if e.1=n then(e.1,rs)else e));rw[yb h]
 .unfold iF;rw[cf];rfl
theorem L7 (n:Str):∀bs,(eP (iF bs) (.str n)).getD (.list [])=.list ((cQ bs n).map cC)
 | []=>rfl
 |e::bs=>by
  unfold eP cQ at *
  rw[show iF (e::bs)=(ZX e.1,ZW (e.2.map cC))::iF bs from rfl,fy,fy];rw[uZ];by_cases h:e.1=n
  .rw[yf h];rfl
  .rw[yg h];exact L7 n bs
theorem V8 (bs:Bs)(n k:Str)(a:List Ru):cQ (hF bs n a) k=if k=n then a else cQ bs k:=by
 unfold hF;split
 .rename_i ha
  have d:∀bs,cQ (bs.map λe=>if e.1=n then(e.1,a)else e) k=if k=n then(if(bs.any λe=>decide (e.1=n))=Z7 then a else[])else cQ bs k:=by
   intro bs
   induction bs with
   |nil=>split<;>rfl
   |cons e bs b=>
    unfold cQ at *
    rw[br,fy,fy,lq];by_cases h:e.1=n
    .rw[ya h];by_cases hk:k=n
     .rw[ya hk,yf (h.trans hk.symm),yf h];rfl
     .rw[yg (λz=>hk (z.symm.trans h)),yb hk]at *
      exact b
    .rw[yb h,yg h];by_cases hk:k=n
     .rw[ya hk]at b ⊢;rw[yg (λz=>h (z.trans hk))];exact b
     .rw[yb hk]at b ⊢;by_cases c:e.1=k
      .rw[yf c]
      .rw[yg c];exact b
  rw[d,ha,ya rfl]
 .rename_i ha;unfold cQ;rw[List.find?_append];by_cases hk:k=n
  .rw[ya hk,hk,List.find?_eq_none.mpr fun e c=>by
    intro z;exact ha (qz.mpr ⟨e,c,z⟩)]
   rw[fy,yf rfl];rfl
  .rw[yb hk];have:List.find? (λe:Str×List Ru=>decide (e.1=k)) [(n,a)]=none:=by rw[fy,yg (λz=>hk z.symm)];rfl
   rw[this,Option.or_none]
def hJ (c1:Int)(cs:List Int)(bd:Nat->Bool)(k:Nat):Nat:=if bd k=Z7 then 1 else nW (bL c1 k) cs (dJ [] cs)
def fM (l:List Nat):Nat:=l.foldr (· * ·) 1
theorem Gf:∀l a,fM (l++a)=fM l*fM a
 | [],a=>(ot _).symm
 |x::l,a=>by show x*fM (l++a)=x*fM l*fM a;rw[Gf l a,u8]
structure Lw (K:Z5)(Ha:Hp)(p:Str)(hs:dB p)(c1:Int)(m:Nat)(cs:List Int)(bs:Bs)(bd:Nat->Bool)(v1 v2 v3 v4 v7:V):Prop where
 r1:Rep K Ha AnyB v1 (nmD p)
 r2:Rep K Ha AnyB v2 (.list ((rwsO p hs c1 m).map bA))
 r3:Rep K Ha AnyB v3 (.list ((opsL p hs c1 m).map opD))
 r4:Rep K Ha AnyB v4 (thD p cs)
 r7:Rep K Ha AnyB v7 (.dict (iF bs))
 hm:m<=4
 hl:cs.length<=6
 hc:∀c∈cs,0<=c/\c<=1000000000000000000000000000000
 bk:∀k,k<m->cQ bs (nmO p (1+k))=if bd k=Z7 then[tR p (bL c1 k)]else[]
section
variable {p:Str}{hs:dB p}{c1:Int}{m:Nat}
theorem L8 (h:Rw5.op o∈rwsO p hs c1 m):∃k,k<m/\o=cU p hs k (bL c1 k):=by
 rcases au.mp h with h|h
 .cases h
 rcases bw.mp h with h|h
 .obtain⟨a,ho,e⟩:=av.mp h;cases e;obtain⟨k,hk,rfl⟩:=av.mp ho;exact⟨k,gf.mp hk,rfl⟩
 .simp[dI]at h
theorem V9 (h:Rw5.wd n s∈rwsO p hs c1 m):n=nmO p 6/\s=.at (nmO p 0) 2:=by
 rcases au.mp h with h|h
 .cases h
 rcases bw.mp h with h|h
 .obtain⟨o',ho,e⟩:=av.mp h;cases e
 .rcases au.mp h with h|h
  .cases h;exact⟨rfl,rfl⟩
  .cases h with
   |tail _ h=>cases h with
    |tail _ h=>cases h
theorem Gg:(rwsO p hs c1 m).filter bK=(opsL p hs c1 m).map .op:=by show(((opsL p hs c1 m).map Rw5.op++dI p).filter bK)=_;rw[jc,fg.mpr λr hr=>by obtain⟨o,_,rfl⟩:=av.mp hr;rfl];show _++[]=_;rw[d6]
theorem vU:(opsL p hs c1 m).length=m:=by unfold opsL;rw[ae,fz]
theorem L9 (n:Nat):nu (rwsO p hs c1 m) n=n*m:=by unfold nu;rw[Gg,ae,vU]
theorem V':((rwsO p hs c1 m).filter gY).length=1:=by show(((opsL p hs c1 m).map Rw5.op++dI p).filter gY).length=1;rw[jc,j1.mpr λr hr=>by obtain⟨o,_,rfl⟩:=av.mp hr;exact λz=>by cases z];rfl
theorem Wa (t:P):tF [.list ((rwsO p hs c1 m).map bA),pk t]=.ok (.fr,pk (mQ [nmO p 0] t)):=by
 refine eL ?_
 have b:=z1f (Κ:=[]) (Φ:=[]) (ρ:=[Z9 (.od,.list ((rwsO p hs c1 m).map bA)),Z9 (.od,pk t),Z8]) (nt:=1) (js:=[]) (N':=["row"]) (tg:=.nm 0) (it:=.tv (.var 0)) (cond:=.tv (.cmp .Eq (.ix (.var 0) (.int 0)) (.str "fact"))) (elt:=.ix (.var 0) (.int 1)) (λr=>match r with|.fa _=>Z7|_=>Z6) (λr=>match r with|.fa n=>.str n|_=>.none) (bR (x:=.list ((rwsO p hs c1 m).map bA)) rfl rfl) rfl (λr=>[Z9 (.al,bA r)]) (λr _=>pD (vS r)) (λr _=>by cases r<;>rfl) λr _ hr=>by
  cases r with
  |op o=>cases hr
  |wd n s=>cases hr
  |fa n=>exact v_ix (z02 rfl) z05.e rfl rfl
  |cl n a=>cases hr
 have e:(rwsO p hs c1 m).filter (λr=>match r with|.fa _=>Z7|_=>Z6)=[.fa (nmO p 0)]:=by show Rw5.fa (nmO p 0)::(((opsL p hs c1 m).map Rw5.op++dI p).filter _)=_;rw[jc,j1.mpr λr hr=>by obtain⟨o,_,rfl⟩:=av.mp hr;exact λz=>by cases z];rfl
 rw[e]at b;exact eS (y4 (xs:=[nmO p 0].map .str) b (vA _)) (z0g (z0s (pW (w:=(Z7,(mQ [nmO p 0] t).map pr)) (Ev.of (UJ (Φ:=[]) (ρ:=[Z9 (.od,.list ((rwsO p hs c1 m).map bA)),Z9 (.od,pk t),Z9 (.fr,.list ([nmO p 0].map .str))]) (it:=.tv (.var 1)) (j:=2) (bR (v_var rfl (eF _)).1 rfl) (.inl rfl) ["pair","facts"])) rfl rfl (eF _))))
theorem L' (c:Int):mQ [nmO p 0] (bZ p c)=bZ p c:=by
 unfold bZ mQ;split
 .exact fg.mpr λq a=>by rw[ag.mp a];simp_all
 .rfl
theorem Ma (cs:List Int):(cs.map (bZ p)).map (mQ [nmO p 0])=cs.map (bZ p):=by rw[dh];exact i6 λc _=>L' c
theorem zJ (hk:k<10):cN (rwsO p hs c1 m) (nmO p k)=if k=7 then Z9 (.so (.is (nmO p 1)))else if k=8 then Z9 (.al (.is (nmO p 6)))else none:=by
 have e:cN (rwsO p hs c1 m) (nmO p k)=(dI p).findSome? (fL (nmO p k)):=by show((opsL p hs c1 m).map Rw5.op++dI p).findSome? _=_;rw[List.findSome?_append,qb.mpr λr hr=>by obtain⟨o,_,rfl⟩:=av.mp hr;rfl,Option.none_or]
 rw[e];have ne:∀i,i<10->(nmO p i=nmO p k↔k=i):=λi hi=>⟨λz=>(pH hi hk z).symm,λz=>by rw[z]⟩
 have c7:∀a,fL (nmO p k) (.cl (nmO p 7) a)=if k=7 then Z9 a else none:=λa=>by
  show(if nmO p 7=nmO p k then Z9 a else Z8)=_;by_cases h:k=7
  .rw[ya h,ya ((ne 7 (by decide)).mpr h)]
  .rw[yb h,yb λz=>h ((ne 7 (by decide)).mp z)]
 have c8:∀a,fL (nmO p k) (.cl (nmO p 8) a)=if k=8 then Z9 a else none:=λa=>by
  show(if nmO p 8=nmO p k then Z9 a else Z8)=_;by_cases h:k=8
  .rw[ya h,ya ((ne 8 (by decide)).mpr h)]
  .rw[yb h,yb λz=>h ((ne 8 (by decide)).mp z)]
 have c6:∀s,fL (nmO p k) (.wd (nmO p 6) s)=none:=λ_=>rfl;unfold dI;simp only[uq,List.findSome?_nil,c6,c7,c8];by_cases h7:k=7
 .simp[h7]
 .by_cases h8:k=8
  .simp[h8]
  .simp[h7,h8]
theorem Wb (hk:k<10):(fE (rwsO p hs c1 m) (nmO p k)).length<=1:=by
 have e:fE (rwsO p hs c1 m) (nmO p k)=(dI p).filterMap (fL (nmO p k)):=by show((opsL p hs c1 m).map Rw5.op++dI p).filterMap _=_;rw[List.filterMap_append,List.filterMap_eq_nil_iff.mpr λr hr=>by obtain⟨o,_,rfl⟩:=av.mp hr;rfl,List.nil_append]
 rw[e];have ne:∀i,i<10->(nmO p i=nmO p k↔k=i):=λi hi=>⟨λz=>(pH hi hk z).symm,λz=>by rw[z]⟩
 have c7:∀a,fL (nmO p k) (.cl (nmO p 7) a)=if k=7 then Z9 a else none:=λa=>by
  show(if nmO p 7=nmO p k then Z9 a else Z8)=_;by_cases h:k=7
  .rw[ya h,ya ((ne 7 (by decide)).mpr h)]
  .rw[yb h,yb λz=>h ((ne 7 (by decide)).mp z)]
 have c8:∀a,fL (nmO p k) (.cl (nmO p 8) a)=if k=8 then Z9 a else none:=λa=>by
  show(if nmO p 8=nmO p k then Z9 a else Z8)=_;by_cases h:k=8
  .rw[ya h,ya ((ne 8 (by decide)).mpr h)]
  .rw[yb h,yb λz=>h ((ne 8 (by decide)).mp z)]
 have c6:∀s,fL (nmO p k) (.wd (nmO p 6) s)=none:=λ_=>rfl;unfold dI;simp only[dr,List.filterMap_nil,c6,c7,c8];by_cases h7:k=7
 .simp[h7]
 .by_cases h8:k=8
  .simp[h8]
  .simp[h7,h8]
end
section
variable {K:Z5}{Ha H:Hp}{p:Str}{hs:dB p}{c1:Int}{m:Nat}{cs:List Int}{bs:Bs}{bd:Nat->Bool}{v1 v2 v3 v4 v7:V}
theorem qN (f:Lw K Ha p hs c1 m cs bs bd v1 v2 v3 v4 v7)(s:Same Ha H):RgA K H (rwsO p hs c1 m) (iF bs) (cQ bs) (cs.map (bZ p)) (mQ [nmO p 0]) v2 v7 v4 where
 ok:={
  op:=λo ho=>by
   obtain⟨k,hk,rfl⟩:=L8 ho;refine⟨L7 _ bs,?_⟩;have a:=f.hm;have e:(cU p hs k (bL c1 k)).n=nmO p (1+k):=by show nmO p (1+k%4)=_;rw[n6 (by omega)]
   rw[e,f.bk k hk];split<;>simp
  tw:=V'▸ai 1
  no:=by rw[Gg,ae,vU];exact f.hm}
 ra:=f.r2.same s λ_ z=>z
 rb:=f.r7.same s λ_ z=>z
 rt:=f.r4.same s λ_ z=>z
 hf:=λt ht=>by obtain⟨c,_,rfl⟩:=av.mp ht;exact⟨Wa _,by rw[L'];exact LV p c⟩
 hl:=by rw[ae];exact f.hl
def fk (p:Str)(cs:List Int)(k:Nat)(l':List (List Str)):Bool:=K1 ((cs.map (bZ p)).zip l') (if k=7 then .so (.is (nmO p 1))else .al (.is (nmO p 6)))
theorem Mb (f:Lw K Ha p hs c1 m cs bs bd v1 v2 v3 v4 v7)(s:Same Ha H)(hk:k<10):zE K H (rwsO p hs c1 m) (iF bs) (cQ bs) (cs.map (bZ p)) (mQ [nmO p 0]) (nmO p k) (fk p cs k) v2 v7 v4 where
 ok:=(qN f s).ok
 ra:=(qN f s).ra
 rb:=(qN f s).rb
 rt:=(qN f s).rt
 hf:=(qN f s).hf
 hl:=(qN f s).hl
 sc:=hs k hk
 hs:=λask ha l' hl hw=>by
  rw[zJ hk]at ha
  have ea:ask=if k=7 then .so (.is (nmO p 1))else .al (.is (nmO p 6)):=by
   by_cases h7:k=7
   .rw[ya h7]at ha ⊢;cases ha;rfl
   .rw[yb h7]at ha ⊢;by_cases h8:k=8
    .rw[ya h8]at ha;cases ha;rfl
    .rw[yb h8]at ha;cases ha
  unfold fk;rw[<-ea,Ma];have h6:=f.hl;rw[ae]at hl
  have z1:((cs.map (bZ p)).zip l').map (λt=>pk t.1)=(cs.map (bZ p)).map pk:=by
   have:=List.map_fst_zip (l₁:=cs.map (bZ p)) (l₂:=l') (by rw[ae];omega)
   conv=>rhs;rw[<-this]
   rw[dh];rfl
  have z2:((cs.map (bZ p)).zip l').map wl=l'.map dP:=by
   have:=List.map_snd_zip (l₁:=cs.map (bZ p)) (l₂:=l') (by rw[ae];omega)
   conv=>rhs;rw[<-this]
   rw[dh];rfl
  have:=U4 (ts:=(cs.map (bZ p)).zip l') (λt ht=>by obtain⟨c,_,e⟩:=av.mp (jj ht).1;rw[<-e];exact LV p c) (by rw[l0,ae];omega) ask;rw[z1,z2]at this;exact this
end
section
variable {K:Z5}{Ha H:Hp}{p:Str}{hs:dB p}{c1:Int}{m:Nat}{cs:List Int}{bs:Bs}{bd:Nat->Bool}{v1 v2 v3 v4 v7:V}
theorem Gh (f:Lw K Ha p hs c1 m cs bs bd v1 v2 v3 v4 v7)(hk:k<m)(hx:Iv (nmO p 0) ns (cs.map (bZ p)).length x)(hn:(cU p hs k (bL c1 k)).n∉ns):(z1n (cU p hs k (bL c1 k)) (cQ bs (cU p hs k (bL c1 k)).n) (cs.map (bZ p)) [x]).length=hJ c1 cs bd k:=by
 have d:=f.hm;have e:(cU p hs k (bL c1 k)).n=nmO p (1+k):=by show nmO p (1+k%4)=_;rw[n6 (by omega)]
 have hb:=f.bk k hk;rw[<-e]at hb;rw[hb];unfold hJ;have a:∀t∈cs.map (bZ p),0<=look t (nmO p 0)/\look t (nmO p 0)<=1000000000000000000000000000000:=λt ht=>by obtain⟨c,hc,rfl⟩:=av.mp ht;rw[LW p (f.hc c hc).1];exact f.hc c hc
 by_cases h:bd k=Z7
 .rw[ya h,ya h];exact VW (λt ht=>(a t ht).2) hx (by omega)
 .rw[yb h,yb h];have g:0<=bL c1 k/\bL c1 k<3:=⟨g8 _ (by decide),gg _ (by decide)⟩;have b:=VY p λc hc=>(f.hc c hc).1;have:=VU (by omega) (λt ht=>(a t ht).1) (by rw[b]) hx hn;rw[b]at this;exact this
theorem Wd (f:Lw K Ha p hs c1 m cs bs bd v1 v2 v3 v4 v7):(kI (cQ bs) ((cs.map (bZ p)).map (mQ [nmO p 0])) (rwsO p hs c1 m)).length=fM ((cc m).map (hJ c1 cs bd)):=by
 rw[Ma];have h4:=f.hm
 let ths:=cs.map (bZ p)
 have Gi:Iv (nmO p 0) [] ths.length (([],ths.map λ_=>[]):Rdg):=⟨ae ..,(λw hw=>by obtain⟨_,_,rfl⟩:=av.mp hw;exact λz=>by cases z),λ_ h=>by cases h⟩
 have h:=z1x (f:=nmO p 0) (qcn:=λo=>(z1n o (cQ bs o.n) ths [([],ths.map λ_=>[])]).length) (rwsO p hs c1 m) [([],ths.map λ_=>[])] [] (λo ho=>by
  obtain⟨k,hk,rfl⟩:=L8 ho;refine⟨λz=>?_,nofun,λx ns' hx hn=>?_⟩
  .have :=pH (by omega) (by decide) z;omega
  .rw[Gh f hk hx hn,Gh f hk Gi λz=>by cases z]) (λw s hw=>by
  obtain⟨rfl,_⟩:=V9 hw;exact λz=>by have:=pH (by decide) (by decide) z;omega) ?_ λx hx=>by rw[ag.mp hx];exact Gi
 .refine Eq.trans h ?_;show 1*(1*fM (((opsL p hs c1 m).map Rw5.op++dI p).map _))=_;rw[ot,ot,cf,Gf,dh];show fM ((opsL p hs c1 m).map _)*1=_;rw[uc];unfold opsL;rw[dh]
  congr 1
  exact i6 λk hk=>Gh f (gf.mp hk) Gi λz=>by cases z
 .have e:(rwsO p hs c1 m).flatMap opN=(cc m).map fun k=>nmO p (1+k%4):=by
   show(((opsL p hs c1 m).map Rw5.op++dI p).flatMap opN)=_;rw[pe];show _++[]=_;rw[d6];unfold opsL;rw[dh]
   have:∀l:List Nat,(l.map (Rw5.op∘λk=>cU p hs k (bL c1 k))).flatMap opN=l.map λk=>nmO p (1+k%4):=λl=>by
    induction l with
    |nil=>rfl
    |cons k l ih=>rw[br,iw,ih];rfl
   exact this _
  rw[e];refine jp.mpr (List.nodup_range.imp_of_mem λ{a b} ha hb F5 z=>F5 ?_);have ha:=gf.mp ha;have hb:=gf.mp hb;have:=pH (by omega) (by omega) z;omega
end
abbrev Φl:List Fn:=[Fh,zt,z6r,Fg]
abbrev σl (v0 v1 v2 v3 v4:V)(o5 o6:Option V)(v7:V)(wn:Int)(o9 o10 o11:Option V)(nm:Str)(o13 o14:Option V):L2.St:=[Z9 v0,Z9 v1,Z9 v2,Z9 v3,Z9 v4,o5,o6,Z9 v7,Z9 (.int wn),o9,o10,o11,Z9 (.str nm),o13,o14]
theorem Wf (x:Str):cmpD .NotEq (.str x) (.str x)=.ok false:=by show Res.ok (!dV (.str x) (.str x))=_;rw[kP,yf rfl];rfl
theorem Mc (x:Str):cmpD .Eq (.str x) (.str x)=.ok true:=by show Res.ok (dV (.str x) (.str x))=_;rw[kP,yf rfl]
theorem Wg (w:Str)(ws:List Str):cmpD .NotIn (.str w) (.list (ws.map .str))=.ok (!decide (w∈ws)):=by show(cmpD .In (.str w) (.list (ws.map .str))>>=λb=>Res.ok (!b))=_;rw[Bh];rfl
theorem Wh {w:Str}(h:Bp w):cmpD .NotIn (.str w) (.tuple [.str "must",.str "never",.str "open"])=.ok false:=by rcases h with rfl|rfl|rfl<;>rfl
theorem Wi (a:p.length<=10)(k:Nat):(nmO p k).length<=11:=by unfold nmO;rw[JC,AH];omega
section
variable {Z:Wc}{Ha H:Hp}{D0:Ends}{p:Str}{hs:dB p}{c1:Int}{m:Nat}{cs:List Int}{bs:Bs}{bd:Nat->Bool}{v0 v1 v2 v3 v4 v7:V}{o5 o6 o9 o10 o11 o13 o14:Option V}{ki:Nat}
theorem Gj (q:wE Z a c H λx d=>wE Z b c d λy e=>oJ Z.K (mB (cmpD op)) x y e Q):wE Z (.cmp op a b) c H Q:=q
theorem Wj (q:wT Z a σ H λb H1=>R (!b) H1):wT Z (.not a) σ H R:=q
theorem zar (f0:Z.fn[0]?=Z9 (spRf Z.K))(f:Lw Z.K Ha p hs c1 m cs bs bd v1 v2 v3 v4 v7)(s:Same Ha H)(hx:∀(H1:Hp) (R:VK),Same H H1->(∀H2,Same H1 H2->R vc H2)->wE Z x (σl v0 v1 v2 v3 v4 o5 o6 v7 wn o9 o10 o11 (nmO p ki) o13 o14) H1 R)
  (q:(vc=.non/\∀H',Same H H'->Q (.str (fD (rwsO p hs c1 m) cs.length)) H')\/(vc=.str (nmO p ki)/\ki<10/\(nmO p ki).length<=100/\∀H',Same H H'->Q (.str (mV (rwsO p hs c1 m) cs.length (nmO p ki))) H')):wE Z (L66.rfA x) (σl v0 v1 v2 v3 v4 o5 o6 v7 wn o9 o10 o11 (nmO p ki) o13 o14) H Q:=by
 refine iE f0 (aV (aQ rfl (aV (aQ rfl (aV (aQ rfl (aV (hx H _ (Same.refl H) λH2 s2=>dN ?_))))))));refine⟨_,_,_,_,_,v2,v7,v4,vc,rfl,qN f (s.trans s2),?_⟩;rw[ae];rcases q with⟨e,q⟩|⟨e,hk,hl,q⟩
 .exact .inl ⟨e,λH' s'=>q H' (s2.trans s')⟩
 .exact .inr ⟨nmO p ki,_,e,Mb f (s.trans s2) hk,hl,λH' s'=>q H' (s2.trans s')⟩
theorem zK:ZY (fD a n)=true:=by
 unfold fD;split
 .exact Gb
 .exact L0
theorem zn8 (c:Z.Κ=[])(d:Z.Φ=Φl)(y:Z.fn[2]?=Z9 (spSe Z.K Z.mg))(z:Z.fn[3]?=Z9 (spRd Z.K Z.mg))(f:Lw Z.K Ha p hs c1 m cs bs bd v1 v2 v3 v4 v7)(s:Same Ha H)(hk:ki<10)(g:ki=7\/ki=8)(nb:cs.length*m<=8)(q:∀o,Same H o->D0.rt (.bl Z7) o):
  wS Z L66.FF D0 (σl v0 v1 v2 v3 v4 o5 o6 v7 (fM ((cc m).map (hJ c1 cs bd)):Nat) o9 o10 o11 (nmO p ki) o13 o14) H:=by
 have A:nu (rwsO p hs c1 m) (cs.map (bZ p)).length<=8:=by rw[L9,ae];exact nb
 obtain⟨ask,C⟩:∃ask,cN (rwsO p hs c1 m) (nmO p ki)=Z9 ask:=by
  rw[zJ hk];rcases g with rfl|rfl
  .exact⟨_,ya rfl⟩
  .exact⟨_,by rw[yb (by decide),ya rfl]⟩
 refine dH (iE y (aV (aQ rfl (aV (aQ rfl (aV (aQ rfl (aV (aQ rfl (dN ⟨_,_,_,_,_,nmO p ki,_,v2,v7,v4,rfl,Mb f s hk,λa h D E t pw ws wd l r F hw ep i=>?_,λa h big=>absurd big (by omega),λhn=>by rw[C]at hn;cases hn⟩))))))))));have j:Rep Z.K E AnyB (.ref t) (.tuple [.str wd,.list (l.map rdD)]):=⟨t,_,rfl,bN.of F,.str _,[.ref pw],rfl,⟨rfl,LH hw⟩,.ref pw,[],rfl,⟨pw,ws,rfl,.inl ⟨ep,trivial⟩,i⟩,rfl⟩;refine bG (dC (fK c d (ρ:=[Z8,Z8,Z8,Z8,Z8,Z8,Z8,Z8,Z8,Z8,Z8,Z8,Z8,Z8,Z9 (.od,_)]) (.no (.no (.no (.no (.no (.no (.no (.no (.no (.no (.no (.no (.no (.no (.da j .nil))))))))))))))) (b:=Z6) (Ez (k:=Z6) (k':=Z6) (rV (k:=Z7) (aN (x:=.bool Z7) ⟨_,rfl⟩ rfl)) λ_=>aN (z0l (k:=Z6) (v_ix (z02 rfl) z05.e rfl rfl).e (cY (aJ cM (aJ cM (aJ cM aY)))).e (Wh hw)).e rfl) λN v=>bU Z ?_));refine iD (Gj (iE z (aV (aQ rfl (aV (aQ rfl (aV (aQ rfl (dN ⟨_,_,_,_,_,v2,v7,v4,rfl,qN f ((s.trans r).trans v),λ_ O u G I=>?_,λbig=>absurd big (by omega)⟩)))))))));have len:hX "len" [.list ((kI (cQ bs) ((cs.map (bZ p)).map (mQ [nmO p 0])) (rwsO p hs c1 m)).map rdD)]=.ok (.int (fM ((cc m).map (hJ c1 cs bd)):Nat)):=by rw[Fv,ae,Wd f]
 refine⟨_,[_],_,⟨u,[],rfl,I,rfl⟩,len,λw P J n=>?_⟩;cases n;exact aQ rfl (sV (B:=AnyB) (B':=AnyB) (dx:=.int _) (dy:=.int _) (b:=Z7) rfl rfl (by show Res.ok (dV (.int _) (.int _))=_;simp[dV,PyData.eqv]) λL M=>q L (r.trans (v.trans (G.trans (J.trans M)))))
end
theorem Wk (p:Str):rL (nmD p) (Z9 7) (Z9 9)=.ok (.list ([nmO p 7,nmO p 8].map .str)):=rfl
theorem Wl (hk:k<10):decide (nmO p k∈[nmO p 7,nmO p 8])=decide (k=7\/k=8):=by
 refine decide_eq_decide.mpr ⟨λh=>?_,λh=>?_⟩
 .rcases au.mp h with h|h
  .exact .inl (pH hk (by decide) h)
  .exact .inr (pH hk (by decide) (ag.mp h))
 .rcases h with rfl|rfl
  .exact .head _
  .exact .tail _ (.head _)
section
variable {Z:Wc}{Ha H:Hp}{D0:Ends}{p:Str}{hs:dB p}{c1:Int}{m:Nat}{cs:List Int}{bs:Bs}{bd:Nat->Bool}{v0 v1 v2 v3 v4 v7:V}{o5 o6 o9 o10 o11 o13 o14:Option V}{ki:Nat}
theorem Wm (f:Lw Z.K Ha p hs c1 m cs bs bd v1 v2 v3 v4 v7)(s:Same Ha H)(hk:ki<10):Ge Z.K H (rwsO p hs c1 m) (nmO p ki) v2 where
 ra:=f.r2.same s λ_ z=>z
 sc:=hs ki hk
 one:=Wb hk
 eq:=λa ha=>by
  rw[zJ hk]at ha;refine eq_self ?_;by_cases h7:ki=7
  .rw[ya h7]at ha;cases ha;rfl
  .rw[yb h7]at ha;by_cases h8:ki=8
   .rw[ya h8]at ha;cases ha;rfl
   .rw[yb h8]at ha;cases ha
theorem zqw (hκ:Z.Κ=[])(hφ:Z.Φ=Φl)(f0:Z.fn[0]?=Z9 (spRf Z.K))(f1:Z.fn[1]?=Z9 (spAs Z.K))(f2:Z.fn[2]?=Z9 (spSe Z.K Z.mg))(f3:Z.fn[3]?=Z9 (spRd Z.K Z.mg))(f:Lw Z.K Ha p hs c1 m cs bs bd v1 v2 v3 v4 v7)(s:Same Ha H)(hk:ki<10)(hp:p.length<=10)(q:∀H',Same H H'->D0.rt (.bl Z7) H'):
  wS Z L66.Ld D0 (σl v0 v1 v2 v3 v4 o5 o6 v7 (fM ((cc m).map (hJ c1 cs bd)):Nat) o9 o10 o11 (nmO p ki) o13 o14) H:=by
 have ln:=Wi hp ki;have mS:=hs ki hk;have Bv:nu (rwsO p hs c1 m) cs.length=cs.length*m:=L9 _;generalize hW:(fM ((cc m).map (hJ c1 cs bd)):Nat)=W;refine dH (zd Gb λH1 s1=>?_);have Gk:=s.trans s1;refine bG (dC (fK hκ hφ (ρ:=[Z8,Z8,Z8,Z9 (.od,.list ((opsL p hs c1 m).map opD)),Z9 (.od,thD p cs),Z8,Z8,Z8,Z8,Z8,Z8,Z8,Z8,Z8,Z8]) (.no (.no (.no (.da (f.r3.same Gk λ_ z=>z) (.da (f.r4.same Gk λ_ z=>z) (.no (.no (.no (.no (.no (.no (.no (.no (.no (.no .nil))))))))))))))) (b:=decide (8<cs.length*m)) ?_ λH2 s2=>?_))
 .refine aN (z0l (cF (fB (z00 (z02 rfl) z09) (by rw[Fv,ae,vU]) rfl).e (fB (z00 (z02 rfl) z09) (by rw[Fv,ae,ae]) rfl).e (yX (by have :=f.hm;omega)) rfl).e z05.e ?_).e rfl;show Res.ok (decide ((8:Int)<m*cs.length))=_
  congr 1
  refine decide_eq_decide.mpr ?_;rw[<-tj,wp];omega
 have pI:=Gk.trans s2
 have fin:∀{H3:Hp} {D1:Ends},D1.rt=D0.rt->Same H2 H3->wS Z (.seq (.ifS (.tc .NotEq (L66.rfA (.pur .non)) (.raw 13)) L66.rF .nil) (.seq (.ifS (.not (.wtr (.cal 1 (L66.a2 (.raw 2) (.raw 12))))) L66.rF .nil)
   (.seq (.ifS (.tp (.tv (.cmp .NotIn (.var 12) (.sl (.var 1) (.tv (.int 7)) (.tv (.int 9)))))) (.seq (.ret (.cmp .Eq (L66.rfA (.raw 12)) (.pur (.bin .Add (.str "unknown ") (.var 12))))) .nil) .nil)
   (.seq (.ifS (.tp (.tv (.cmp .NotEq (.var 13) (.str "")))) (.seq (.ret (.cmp .Eq (L66.rfA (.raw 12)) (.raw 13))) .nil) .nil) L66.FF)))) D1 (σl v0 v1 v2 v3 v4 o5 o6 v7 W o9 o10 o11 (nmO p ki) (Z9 (.str (fD (rwsO p hs c1 m) cs.length))) o14) H3:=λ{H3 D1} er s3=>by
  have jC:=pI.trans s3;have Gp:=s1.trans (s2.trans s3);refine bG (dC (E4 (zar f0 f jC (λH4 R s4 k=>Uc λH5 s5=>k H5 s5) (.inl ⟨rfl,λH4 s4=>aQ rfl (sV (B:=AnyB) (B':=AnyB) (dx:=.str _) (dy:=.str _) ⟨rfl,zK⟩ ⟨rfl,zK⟩ (Wf _) λH5 s5=>⟨Z6,rfl,bU Z ?_⟩)⟩))));have pG:=s4.trans s5;refine bG (dC (Wj (Uj (iE f1 (aV (aQ rfl (aV (aQ rfl (dN ⟨_,nmO p ki,v2,rfl,Wm f (jC.trans pG) hk,λH6 s6=>⟨Z7,rfl,bU Z ?_⟩⟩)))))))));have vR:=pG.trans s6;have Wn:=jC.trans vR;refine bG (dC (fK hκ hφ (ρ:=[Z8,Z9 (.od,nmD p),Z8,Z8,Z8,Z8,Z8,Z8,Z8,Z8,Z8,Z8,Z9 (.od,.str (nmO p ki)),Z8,Z8]) (.no (.da (f.r1.same Wn λ_ z=>z) (.no (.no (.no (.no (.no (.no (.no (.no (.no (.no (.da (B:=AnyB) ⟨rfl,mS⟩ (.no (.no .nil))))))))))))))) (aN (z0l (k:=!decide (ki=7\/ki=8)) (z02 rfl) (zw (z02 rfl) (yZ z05.e) (yZ z05.e) (Wk p)) (by rw[Wg,Wl hk])).e rfl) λH7 s7=>?_));have Gq:=vR.trans s7;have Wo:=jC.trans Gq;by_cases vV:ki=7\/ki=8
  .rw[yb (by rw[yf vV];decide)]
   obtain⟨ask,ha⟩:∃ask,cN (rwsO p hs c1 m) (nmO p ki)=Z9 ask:=by
    rw[zJ hk];rcases vV with rfl|rfl
    .exact⟨_,ya rfl⟩
    .exact⟨_,by rw[yb (by decide),ya rfl]⟩
   have zL:mV (rwsO p hs c1 m) cs.length (nmO p ki)=fD (rwsO p hs c1 m) cs.length:=by unfold mV fD;rw[yb (by rw[ha];exact λz=>by cases z)]
   refine bU Z (bG (dC (fK hκ hφ (ρ:=[Z8,Z8,Z8,Z8,Z8,Z8,Z8,Z8,Z8,Z8,Z8,Z8,Z8,Z9 (.od,.str (fD (rwsO p hs c1 m) cs.length)),Z8]) (.no (.no (.no (.no (.no (.no (.no (.no (.no (.no (.no (.no (.no (.da (B:=AnyB) ⟨rfl,zK⟩ (.no .nil))))))))))))))) (b:=!decide (fD (rwsO p hs c1 m) cs.length="")) (aN (z0l (k:=!decide (fD (rwsO p hs c1 m) cs.length="")) (z02 rfl) cM.e (by show Res.ok (!dV _ _)=_;rw[kP])).e rfl) λH8 s8=>?_)));have tK:=Gq.trans s8;have Md:=jC.trans tK;by_cases nb:cs.length*m<=8
   .have e0:fD (rwsO p hs c1 m) cs.length="":=by unfold fD;rw[Bv,ya nb]
    rw[yb (by rw[yf e0];decide)];rw[<-hW];refine bU Z (zn8 hκ hφ f2 f3 f Md hk vV nb λH9 s9=>?_);rw[er];exact q H9 (Gp.trans (tK.trans s9))
   .have e0:fD (rwsO p hs c1 m) cs.length≠"":=by unfold fD;rw[Bv,yb nb];decide
    rw[ya (by rw[yg e0];rfl)];refine iD (Gj (zar f0 f Md (λH4 R s4 k=>aQ rfl (k H4 (Same.refl _))) (.inr ⟨rfl,hk,by omega,λH9 s9=>aQ rfl (sV (B:=AnyB) (B':=AnyB) (dx:=.str _) (dy:=.str _) ⟨rfl,by rw[zL];exact zK⟩ ⟨rfl,zK⟩ (by rw[zL];exact Mc _) λMe Gr=>?_)⟩)));rw[er];exact q Me (Gp.trans (tK.trans (s9.trans Gr)))
  .rw[ya (by rw[yg vV];rfl)];have hn:cN (rwsO p hs c1 m) (nmO p ki)=none:=by rw[zJ hk,yb λz=>vV (.inl z),yb λz=>vV (.inr z)]
   have zL:mV (rwsO p hs c1 m) cs.length (nmO p ki)="unknown "++nmO p ki:=by unfold mV;rw[ya hn]
   refine iD (Gj (zar f0 f Wo (λH4 R s4 k=>aQ rfl (k H4 (Same.refl _))) (.inr ⟨rfl,hk,by omega,λH9 s9=>?_⟩)));refine eD hκ hφ (ρ:=[Z8,Z8,Z8,Z8,Z8,Z8,Z8,Z8,Z8,Z8,Z8,Z8,Z9 (.od,.str (nmO p ki)),Z8,Z8]) (.no (.no (.no (.no (.no (.no (.no (.no (.no (.no (.no (.no (.da (B:=AnyB) ⟨rfl,mS⟩ (.no (.no .nil))))))))))))))) (cF cM.e (z02 rfl) (add_str (by show 8+_<=_;omega)) rfl).e λv Me Gr Wq=>?_;obtain⟨rfl,ok⟩:=Wq;refine sV (B:=AnyB) (B':=AnyB) (dx:=.str _) (dy:=.str _) ⟨rfl,by rw[zL];exact ok⟩ ⟨rfl,ok⟩ (by rw[zL];exact Mc _) λWr Ws=>?_;rw[er];exact q Wr (Gp.trans (Gq.trans (s9.trans (Gr.trans Ws))))
 by_cases big:8<cs.length*m
 .rw[ya (yf big)];have e0:fD (rwsO p hs c1 m) cs.length="much":=by unfold fD;rw[Bv,yb (by omega)]
  refine dH (zd L0 λH3 s3=>bU Z ?_);have:=fin rfl s3;rw[e0]at this;exact this
 .rw[yb (by rw[yg big];decide)];have e0:fD (rwsO p hs c1 m) cs.length="":=by unfold fD;rw[Bv,ya (by omega)]
  refine bU Z ?_;have:=fin rfl (Same.refl H2);rw[e0]at this;exact this
end
section
variable {Z:Wc}{Φ:List Fn}{D0:Ends}{σ:L2.St}{ρ:Rho}{H:Hp}{t:Tg}{it:C}{b:WS}{g:G}{ds:List D}
theorem zh3 (u:Z.Κ=[])(v:Z.Φ=Φ)(sl:Sb Z.K H B0 σ ρ)(ev:evW [] Φ it ρ=.ok (g,ds))(M:Hp->Hp->Prop)(E:∀a,M a a)(F:∀a h i,M a h->M h i->M a i)(R:∀a h,Same a h->M a h)
  (mk:∀a h,Same H a->M a h->∀b o,a b=Z9 o->(BG (FB H B0) H g (Z9 b)/\¬nw a (Z9 b)\/Fix o)->h b=Z9 o) (I:Nat->L2.St->Hp->Prop) (G:∀a,Same H a->I 0 σ a)
  (one:∀k y d c f h x,ds[k]?=Z9 d->I k c f->Same f h->Rep Z.K h AnyB y d->x.rt=D0.rt->(∀j i,I (k+1) j i->M f i->x.nx j i)->tDG Z.K t y c h (wS Z b x))
  (q:∀c f,I ds.length c f->D0.nx c f):wS Z (.bC t it b) D0 σ H:=by
 refine⟨ρ,FB H B0,(g,ds),sl.so,by rw[u,v];exact ev,λJ B a C L wk=>?_⟩;have kp:∀f,M a f->Kp B a f:=λf m b o e z=>mk a f C m b o e (z.imp (λz=>L _ z) id);refine⟨λk n c f=>n=ds.length-k/\k<=ds.length/\M a f/\I k c f,⟨_,rfl,cy _,E _,G a C⟩,?_⟩
 rintro k n c f ⟨rfl,hk,s,D⟩
 by_cases l:k<ds.length
 .refine .inr ⟨wk.go f (kp _ s) k l,λp h=>k+1<=ds.length/\M a h/\I (k+1) p h,λp h w=>⟨ds.length-(k+1),by omega,rfl,w⟩,λy h N=>?_⟩;obtain⟨O,d,e,r⟩:=wk.gG f (kp _ s) k y h l N;exact one k y d c f h _ e D O (r.weak λ_ _=>trivial) rfl λj i P Q=>⟨l,F _ _ _ s Q,P⟩
 .have A:k=ds.length:=by omega
  subst A;exact .inl ⟨wk.stop f (kp _ s),q c f D⟩
theorem zko (hκ:Z.Κ=[])(hφ:Z.Φ=Φ)(sl:Sb Z.K H B0 σ ρ)(ev:evW [] Φ it ρ=.ok (g,ds))(T:Addr->Prop)(hT:∀b,T b->(∃o,H b=Z9 o/\¬Fix o)/\¬B0 (Z9 b))(I:Nat->L2.St->Hp->Prop)(i0:∀H1,Same H H1->I 0 σ H1)
  (one:∀k y d σ' H' H2 D2,ds[k]?=Z9 d->I k σ' H'->Same H' H2->Rep Z.K H2 AnyB y d->D2.rt=D0.rt->(∀hS H3,I (k+1) hS H3->(∀b o,¬T b->H' b=Z9 o->H3 b=Z9 o)->D2.nx hS H3)->tDG Z.K t y σ' H2 (wS Z b D2))
  (q:∀σ' H',I ds.length σ' H'->D0.nx σ' H'):wS Z (.bC t it b) D0 σ H:=
 zh3 hκ hφ sl ev (λH1 H2=>∀b o,¬T b->H1 b=Z9 o->H2 b=Z9 o) (λ_ _ _ _ e=>e) (λ_ _ _ m1 m2 b o n e=>m2 b o n (m1 b o n e)) (λ_ _ s b o _ e=>s b o e) (λH1 H2 s m b o e z=>m b o (λw=>by
  obtain⟨⟨o',e',nf⟩,nB⟩:=hT b w;have e1:=s b o' e';rw[e]at e1;cases e1;rcases z with z|z
  .rcases zD _ _ z.1 with z1|z1
   .have :H b=none:=z1;rw[this]at e';cases e'
   .exact nB z1
  .exact nf z) e) I i0 one q
end
section
variable {K:Z5}{H H':Hp}{bs:Bs}
theorem Mf:∀{bs:Bs} {a:List (Key×V)},aS K H B a (iF bs)->a.length=bs.length
 | [],a,r=>by cases(show a=[]from r);rfl
 |e::bs,a,r=>by obtain⟨b,c,t,rfl,d,ok,rv,rt⟩:=r;exact congrArg (· +1) (Mf rt)
end
def Bw (H:Hp)(q:Addr):Ad->Prop:=λa=>Mi.nw H a/\a≠Z9 q
section
variable {H2:Hp}{q:Addr}{ks:List (Key×V)}
theorem aS.Gs {K:Z5}(r:aS K H2 (Bw H0 q) b es)(c:H2 q=Z9 (.dK ks)):aS K (upd H2 q (.dK d)) (Bw H0 q) b es:=aS.keep (λa o e z=>by
 rw[aB]
 .exact e
 .rintro rfl
  rcases z with z|z
  .exact z.2 rfl
  .rw[c]at e;cases e;exact z) (λ_ z=>z) _ r
end
theorem Wt {K:Z5}(b:H q=Z8)(r:Rep K H AnyB v d):Rep K H (tL [q]) v d:=(Rep.there _ r).weak λa z=>by
 cases a with
 |none=>trivial
 |some a=>intro w;rw[ag.mp w]at z;exact z.2 b
theorem Wu (a:List Int):aggD "sum" Z7 (a.map .int)=.ok (.int a.sum):=by show Res.eE ((fW (a.map .int)).map ZV)=_;rw[KD];rfl
abbrev TEN:Int:=1000000000000000000000000000000
def hP (c:Int):Int:=if mU c 2%2=0 then c%3 else c%(TEN+1)
theorem Wv (c:Int):0<=hP c/\hP c<=TEN:=by
 unfold hP TEN;split
 .exact⟨g8 _ (by decide),by have:=gg c (show 0<3 by decide);omega⟩
 .exact⟨g8 _ (by decide),by have:=gg c (show 0<1000000000000000000000000000000+1 by decide);omega⟩
theorem Ww {b:Type}(a:List b)(h0:0<=m)(c:m<7):(cut a (Z9 2) (Z9 (2+m))).length<=6:=by
 have:m=0\/m=1\/m=2\/m=3\/m=4\/m=5\/m=6:=by omega
 unfold cut;rw[g9];rcases this with rfl|rfl|rfl|rfl|rfl|rfl|rfl
 .show min (min 2 a.length-min 2 a.length) _<=6;omega
 .show min (min 3 a.length-min 2 a.length) _<=6;omega
 .show min (min 4 a.length-min 2 a.length) _<=6;omega
 .show min (min 5 a.length-min 2 a.length) _<=6;omega
 .show min (min 6 a.length-min 2 a.length) _<=6;omega
 .show min (min 7 a.length-min 2 a.length) _<=6;omega
 .show min (min 8 a.length-min 2 a.length) _<=6;omega
section
variable {Z:Wc}{Hb:Hp}{D0:Ends}{xs:List Int}{v0 v1 v2 v3:V}{B:Ad->Prop}{p:Str}{p4:Addr}
theorem Wx (h5:ρ[5]?=Z9 (Z9 (g,.int c))):Vv [] Φl (.ix (.lst (.cons (.bin .Mod (.var 5) (.int 3)) (.cons (.bin .Mod (.var 5) (.bin .Add (.bin .Pow (.int 10) (.int 30)) (.int 1))) .nil))) (.bin .Mod (L66.mx (.var 5) (.int 2)) (.int 2))) ρ (.int (hP c)):=by
 refine v_ix (Ev.of (eC (aJ (cF (z02 h5) z05.e (j' (by decide)) rfl) (aJ (cF (d:=.int (c%(TEN+1))) (z02 h5) (cF (cF z05.e z05.e JE rfl).e z05.e rfl rfl).e (j' (by decide)) rfl) aY)))) (cF (z0m (z00 (z02 h5) (z00 z05.e z09)) rfl (zI c (by decide) (by decide)) rfl).e z05.e (j' (by decide)) rfl).e ?_ rfl;unfold hP;have:mU c 2%2=0\/mU c 2%2=1:=by omega
 rcases this with e|e
 .rw[e,ya rfl];rfl
 .rw[e,yb (by decide)];rfl
theorem Wy (f:a[1]?=Z9 (Z9 (g,nmD p)))(b:a[6]?=Z9 (Z9 (j,.int c))):Vv [] Φl (.gB "tuple" (.tv (.rep (.cons (.tup (.cons (.ix (.var 1) (.int 0)) (.cons (.var 6) .nil))) .nil) (.bi "int" (.cons (.cmp .Gt (.var 6) (.int 0)) .nil))))) a (pk (bZ p c)):=by
 have hb:Ev [] Φl (.bi "int" (.cons (.cmp .Gt (.var 6) (.int 0)) .nil)) a (.int (if 0<c then 1 else 0)):=(fB (z00 (z0l (z02 b) z05.e rfl).e z09) (by
  by_cases h:0<c
  .rw[yf h,ya h];rfl
  .rw[yg h,yb h];rfl) rfl).e
 have i:=SM (d:=.list ((bZ p c).map pr)) (aJ (cY (aJ (gZ f 0 (by decide)) (aJ (v_var b rfl) aY))) aY) hb (by
  unfold bZ;by_cases h:0<c
  .rw[ya h,ya h];rfl
  .rw[yb h,yb h];rfl)
 exact pW (w:=(Z7,(bZ p c).map pr)) (Ev.of i) rfl rfl (eF _)
theorem zo8 (n:Z.Κ=[])(r:Z.Φ=Φl)(W:Rep Z.K Hb B v0 (.list (xs.map .int)))(r1:Rep Z.K Hb AnyB v1 (nmD p))(H:Hb p4=Z8)(hx:xs.length<=63)
  (q:∀f (cs:List Int) g h i,Same Hb f->f p4=Z9 (.lst g)->aD Z.K f AnyB g ((cs.map (bZ p)).map pk)->cs.length<=6->(∀c∈cs,0<=c/\c<=TEN)->D0.nx [Z9 v0,Z9 v1,Z9 v2,Z9 v3,Z9 (.ref p4),h,i,Z8,Z8,Z8,Z8,Z8,Z8,Z8,Z8] f):
  wS Z L66.La D0 [Z9 v0,Z9 v1,Z9 v2,Z9 v3,Z9 (.ref p4),Z8,Z8,Z8,Z8,Z8,Z8,Z8,Z8,Z8,Z8] (upd Hb p4 (.lst [])):=by
 have sl:∀{f:Hp} {h i:Option V} {I J:Option GD},Same Hb f->Sl Z.K f [h,i,Z8,Z8,Z8,Z8,Z8,Z8,Z8,Z8] [I,J,Z8,Z8,Z8,Z8,Z8,Z8,Z8,Z8]->Sl Z.K f [Z9 v0,Z9 v1,Z9 v2,Z9 v3,Z9 (.ref p4),h,i,Z8,Z8,Z8,Z8,Z8,Z8,Z8,Z8] [Z9 (.od,.list (xs.map .int)),Z9 (.od,nmD p),Z8,Z8,Z8,I,J,Z8,Z8,Z8,Z8,Z8,Z8,Z8,Z8]:=λ{f h i I J} s t=>.da (W.same s λ_ z=>z) (.da (r1.same s λ_ z=>z) (.no (.no (.no t))));have L:∀{f:Hp},Sl Z.K f [Z8,Z8,Z8,Z8,Z8,Z8,Z8,Z8] [Z8,Z8,Z8,Z8,Z8,Z8,Z8,Z8]:=λ{f}=>.no (.no (.no (.no (.no (.no (.no (.no .nil)))))));obtain⟨l,X⟩:=Fy xs (k:=0) (by decide);have n0:0<=l/4%7:=g8 _ (by decide);have n2:l/4%7<7:=gg _ (by decide);have R:=Ww (xs++[0,1,2,3,4,5]) n0 n2
 let m:Rho:=[Z9 (.od,.list (xs.map .int)),Z9 (.od,nmD p),Z8,Z8,Z8,Z8,Z8,Z8,Z8,Z8,Z8,Z8,Z8,Z8,Z8]
 have ev:evW [] Φl (.tv (.sl (.bin .Add (.var 0) (.lst (.cons (.int 0) (.cons (.int 1) (.cons (.int 2) (.cons (.int 3) (.cons (.int 4) (.cons (.int 5) .nil)))))))) (.tv (.int 2)) (.tv (.bin .Add (.int 2) (.bin .Mod (.bin .FloorDiv (L66.ca 0) (.int 4)) (.int 7)))))) m=.ok (.fr,(cut (xs++[0,1,2,3,4,5]) (Z9 2) (Z9 (2+l/4%7))).map .int):=by
  refine bR (x:=.list ((cut (xs++[0,1,2,3,4,5]) (Z9 2) (Z9 (2+l/4%7))).map .int)) ?_ rfl
  have hs:aF [] Φl (.bin .Add (.var 0) (.lst (.cons (.int 0) (.cons (.int 1) (.cons (.int 2) (.cons (.int 3) (.cons (.int 4) (.cons (.int 5) .nil)))))))) m=.ok (.fr,.list ((xs++[0,1,2,3,4,5]).map .int)):=by
   rw[cf];refine sM (z02 rfl) (Ev.of (eC (aJ z05 (aJ z05 (aJ z05 (aJ z05 (aJ z05 (aJ z05 aY)))))))) (add_list ?_) ?_
   .rw[ae];show _+6<=_;omega
   .rw[<-cf];exact vL (λ_=>rfl) _
  rw[yY,hs,Res.aC];have ha:Oo [] Φl (.tv (.int 2)) m (Z9 2):=yZ z05.e;have hb:Oo [] Φl (.tv (.bin .Add (.int 2) (.bin .Mod (.bin .FloorDiv (L66.ca 0) (.int 4)) (.int 7)))) m (Z9 (2+l/4%7)):=yZ (cF z05.e (cF (cF (iA (z00 (z02 rfl) (z00 z05.e z09)) rfl X) z05.e (KN (by decide) (by decide)) rfl).e z05.e (j' (by decide)) rfl).e rfl rfl).e;rw[ha,Res.aC,hb,Res.aC];show(Res.ok (ZW (cut ((xs++[0,1,2,3,4,5]).map .int) (Z9 2) (Z9 (2+l/4%7))))>>=λd=>Res.ok (gN d _,d))=_;rw[KO,Res.aC];have:imms ((cut (xs++[0,1,2,3,4,5]) (Z9 2) (Z9 (2+l/4%7))).map .int)=true:=vL (λ_=>rfl) _;show Res.ok ((if imms ((cut (xs++[0,1,2,3,4,5]) (Z9 2) (Z9 (2+l/4%7))).map .int)=Z7 then G.fr else _),_)=_;rw[ya this]
 generalize cut (xs++[0,1,2,3,4,5]) (Z9 2) (Z9 (2+l/4%7))=cl at R ev;refine zl8 n r (sl (Same.upd H) (.no (.no L))) ev (λb=>b=p4) (λb hb=>⟨.lst [],by rw[hb];exact aT,λz=>z⟩) (λj v f=>Same Hb f/\∃(g:List V) (h i:Option V),f p4=Z9 (.lst g)/\aD Z.K f (tL [p4]) g ((((cl.take j).map hP).map (bZ p)).map pk)/\v=[Z9 v0,Z9 v1,Z9 v2,Z9 v3,Z9 (.ref p4),h,i,Z8,Z8,Z8,Z8,Z8,Z8,Z8,Z8]) (λH1 S=>⟨(Same.upd H).trans S,[],Z8,Z8,S _ _ aT,rfl,rfl⟩) ?_ ?_
 .rintro k y d v f H2 D2 hd ⟨F,g,h,i,M,rv,rfl⟩ N ry Bo nx
  rw[ar]at hd;obtain⟨c,hc,rfl⟩:=bc.mp hd;refine FG ry (by simp) λw O=>?_;obtain rfl:w=.int c:=O;have D:=F.trans N;refine dH (eD n r (sl D (.qL (.no L))) (Wx rfl).e λv6 H3 P r3=>?_);obtain rfl:v6=.int (hP c):=r3;have Q:=D.trans P;have A:=P _ _ (N _ _ M);refine bG (FV (aQ rfl ⟨.inl ⟨rfl,_,SqL.of A⟩,vQ (Sl.so (sl Q (.qL (.qL L)))) (by rw[n,r];exact(Wy rfl rfl).1) λu H4 T ru=>?_⟩));have E:=T _ _ A;have U:=rv.length;rw[ae,ae,ae,g9]at U;refine⟨p4,g,u,rfl,rfl,E,by rw[U,dw];omega,bU Z ?_⟩;have C:=N.trans (P.trans T);have fr:∀b o,b≠p4->f b=Z9 o->upd H4 p4 (.lst (g++[u])) b=Z9 o:=λb o hb e=>by rw[aB hb];exact C b o e
  refine nx _ _ ⟨λb o e=>?_,g++[u],_,_,aT,?_,rfl⟩ fr
  .rw[aB λz=>by rw[z,H]at e;cases e];exact C _ _ (F _ _ e)
  .have tk:cl.take (k+1)=cl.take k++[c]:=by rw[km,hc];rfl
   rw[tk,cf,cf,cf];exact aD.aB E (.head _) (λ_ z=>z) ((rv.same C λ_ z=>z).append (aD.cons (ru.weak λa z=>FP (As A) a z) rfl))
 .rintro v f ⟨F,g,h,i,M,rv,rfl⟩
  rw[ae,fj (ai _)]at rv;exact q f (cl.map hP) g h i F M (rv.weak λ_ _=>trivial) (by rw[ae];exact R) λc hc=>by obtain⟨x,_,rfl⟩:=av.mp hc;exact Wv x
end
def fZ (c1:Int)(k:Nat):Bool:=decide (mU c1 (20+k)%3=0)
structure tU (p:Str)(c1:Int)(j:Nat)(bs:Bs):Prop where
 l:bs.length<=j
 g:∀k,k<4->cQ bs (nmO p (1+k))=if k<j/\fZ c1 k=Z7 then[tR p (bL c1 k)]else[]
theorem Gu (p:Str)(a:Int):tU p a 0 []:=⟨ai 0,λk _=>by rw[yb (by omega)];rfl⟩
theorem WA (bs:Bs)(n:Str)(rs:List Ru):(hF bs n rs).length<=bs.length+1:=by
 unfold hF;split
 .rw[ae];omega
 .rw[bq];simp_all
theorem WB (h:tU p c1 j bs)(hj:j<4)(hb:fZ c1 j=Z7):tU p c1 (j+1) (hF bs (nmO p (1+j)) [tR p (bL c1 j)]):=by
 refine⟨bp (WA _ _ _) (Nat.succ_le_succ h.l),λk hk=>?_⟩;rw[V8];by_cases e:k=j
 .subst e;rw[ya rfl,ya ⟨by omega,hb⟩]
 .rw[yb λz=>e (by have :=pH (by omega) (by omega) z;omega),h.g k hk];by_cases z:k<j/\fZ c1 k=Z7
  .rw[ya z,ya ⟨by omega,z.2⟩]
  .rw[yb z,yb λw=>z ⟨by omega,w.2⟩]
theorem WC (h:tU p c1 j bs)(hb:¬fZ c1 j=Z7):tU p c1 (j+1) bs:=by
 refine⟨xj h.l,λk hk=>?_⟩;rw[h.g k hk];by_cases z:k<j/\fZ c1 k=Z7
 .rw[ya z,ya ⟨by omega,z.2⟩]
 .rw[yb z,yb λw=>z ⟨by have:k≠j:=λe=>hb (e▸w.2);omega,w.2⟩]
def Gv (p:Str)(b:Bool):List D:=if b then[pk (kM p Z7),pk []]else[pk []]
theorem WD (h:a[10]?=Z9 (Z9 (g,opD (cU p hs k w)))):aF [] Φl L66.Lb a=.ok (.fr,.list (Gv p (decide (w=1)))):=by
 have b:Vv [] Φl (.ix (.var 10) (.int 3)) a (tS (if decide (w=1)then[nmO p 0]else[])):=v_ix (z02 h) z05.e rfl (kQ _);have hc:=z1f (nt:=1) (js:=[]) (N':=["_law_name_here"]) (tg:=.nm 0) (it:=.tv (.ix (.var 10) (.int 3))) (elt:=.tup (.cons (.tup (.cons (.var 0) (.cons (.bin .Pow (.int 10) (.int 30)) .nil))) .nil)) (λ_=>Z7) (λn=>pk [(n,TEN)]) (bR b.1 rfl) rfl (λn=>[Z9 (.al,.str n)]) (λn _=>pD rfl) (λ_ _=>oV) λn _ _=>cY (aJ (cY (aJ (v_var rfl rfl) (aJ (cF z05.e z05.e JE rfl) aY))) aY);refine sM (Ev.of hc) (Ev.of (eC (aJ (cY aY) aY))) ?_ ?_
 .cases decide (w=1)<;>rfl
 .cases decide (w=1)<;>rfl
theorem WE (w:Int)(h:a.length<=6):nW w cs a<=7:=by
 unfold nW;split
 .decide
 .split
  .decide
  .omega
theorem WG (q:wE Z a c H λx d=>wE Z b c d λy e=>oM Z.K (cK op) x y e Q):wE Z (.bin op a b) c H Q:=q
theorem WH (q:wE Z v b H λv f=>wE Z o b f λx g=>wE Z k b g λy d=>(∃a c,x=.ref a/\DPut d a y v c/\e.nx b c)\/Cd x y v d λc=>e.nx b c):wS Z (.put o k v) e b H:=q
section
variable {Z:Wc}{Hb:Hp}{D0:Ends}{xs:List Int}{v0 v1 v2 v3:V}{o5 o6:Option V}{p:Str}{hs:dB p}{c1:Int}{m:Nat}{cs:List Int}{v4:V}{p7:Addr}
theorem zs2 (hκ:Z.Κ=[])(hφ:Z.Φ=Φl)(f4:Z.fn[4]?=Z9 (spWs Z.K))(h1:z6r [.list (xs.map .int),.int 1]=.ok (.fr,.int c1))(r0:Rep Z.K Hb AnyB v0 (.list (xs.map .int)))(r3:Rep Z.K Hb AnyB v3 (.list ((opsL p hs c1 m).map opD)))(r4:Rep Z.K Hb AnyB v4 (thD p cs))(hm:m<=4)(hl:cs.length<=6)(hc:∀c∈cs,0<=c/\c<=TEN)(h7:Hb p7=Z8){H7:Hp}(s7:Same (upd Hb p7 (.dK [])) H7)
  (q:∀H' (bs:Bs) o9 o10 o11,Same Hb H'->Rep Z.K H' AnyB (.ref p7) (.dict (iF bs))->tU p c1 m bs->D0.nx [Z9 v0,Z9 v1,Z9 v2,Z9 v3,Z9 v4,o5,o6,Z9 (.ref p7),Z9 (.int (fM ((cc m).map (hJ c1 cs (fZ c1))):Nat)),o9,o10,o11,Z8,Z8,Z8] H'):
  wS Z L66.Lc D0 [Z9 v0,Z9 v1,Z9 v2,Z9 v3,Z9 v4,o5,o6,Z9 (.ref p7),Z9 (.int 1),Z8,Z8,Z8,Z8,Z8,Z8] H7:=by
 have u7:Same Hb H7:=(Same.upd h7).trans s7;have ev:evW [] Φl (.enum (.var 3)) [Z8,Z8,Z8,Z9 (.al,.list ((opsL p hs c1 m).map opD)),Z8,Z8,Z8,Z8,Z8,Z8,Z8,Z8,Z8,Z8,Z8]=.ok (.al,(opsL p hs c1 m).zipIdx.map λx=>.tuple [.int x.2,opD x.1]):=by rw[Au (x:=.list ((opsL p hs c1 m).map opD)) (z02 rfl) (sQ (by rw[ae,vU];omega)),AK (m:=opD)]
 have WI:=(Wt h7 r3).same (B':=tL [p7]) u7 λ_ z=>z;have sl:∀{H':Hp} {o7 o8 o9 o10 o11:Option V} {q9 Gx Gy:Option GD},Same Hb H'->Sl Z.K H' [o9,o10,o11,Z8,Z8,Z8] [q9,Gx,Gy,Z8,Z8,Z8]->Sl Z.K H' [Z9 v0,Z9 v1,Z9 v2,Z9 v3,Z9 v4,o5,o6,o7,o8,o9,o10,o11,Z8,Z8,Z8] [Z9 (.od,.list (xs.map .int)),Z8,Z8,Z8,Z8,Z8,Z8,Z8,Z8,q9,Gx,Gy,Z8,Z8,Z8]:=λ{H' o7 o8 o9 o10 o11 q9 Gx Gy} s t=>.da (r0.same (B':=AnyB) s λ_ z=>z) (.no (.no (.no (.no (.no (.no (.no (.no t))))))))
 refine zko hκ hφ (B0:=tL [p7]) (.no (.no (.no (.da WI (.no (.no (.no (.no (.no (.no (.no (.no (.no (.no (.no .nil))))))))))))))) ev (λb=>b=p7) (λb hb=>⟨⟨.dK [],by rw[hb];exact s7 _ _ aT,λz=>z⟩,by rw[hb];exact λz=>z (.head _)⟩)
  (λj σ' H'=>Same Hb H'/\∃(ks:List (Key×V)) (bs:Bs) (o9 o10 o11:Option V),H' p7=Z9 (.dK ks)/\aS Z.K H' (Bw Hb p7) ks (iF bs)/\tU p c1 j bs/\σ'=[Z9 v0,Z9 v1,Z9 v2,Z9 v3,Z9 v4,o5,o6,Z9 (.ref p7),Z9 (.int (fM ((cc j).map (hJ c1 cs (fZ c1))):Nat)),o9,o10,o11,Z8,Z8,Z8])
  (λH1 s1=>⟨u7.trans s1,[],[],Z8,Z8,Z8,s1 _ _ (s7 _ _ aT),rfl,Gu p c1,rfl⟩) ?_ ?_
 .rintro k y d σ' H' H2 D2 hd ⟨s',ks,bs,o9,o10,o11,e7,rk,bk,rfl⟩ s2 ry Bo nx
  rw[ar]at hd;obtain⟨x,hx,rfl⟩:=bc.mp hd;rw[ou,bc]at hx;obtain⟨o,ho,rfl⟩:=hx;rw[jo]at ry;have hk:k<m:=by have:=(ba.mp ho).1;rw[vU]at this;exact this
  have eo:o=cU p hs k (bL c1 k):=by unfold opsL at ho;rw[ar,i5 hk]at ho;exact(yc ho).symm
  subst eo;refine zqe ry (by simp) (by simp) (by decide) λtZ w4 w hlen e4 e5 WJ An rest=>?_;have WK:=Lx (by decide) hlen e4 e5 rest;subst WK;cases WJ;have pI:=s'.trans s2;have Gz:=s2 _ _ e7;have Mg:fM ((cc (k+1)).map (hJ c1 cs (fZ c1)))=fM ((cc k).map (hJ c1 cs (fZ c1)))*hJ c1 cs (fZ c1) k:=by rw[List.range_succ,cf,Gf];show _*(_*1)=_;rw[uc]
  have kn:nmO p (1+k%4)=nmO p (1+k):=by rw[n6 (by omega)]
  show wS Z _ D2 [Z9 v0,Z9 v1,Z9 v2,Z9 v3,Z9 v4,o5,o6,Z9 (.ref p7),Z9 (.int (fM ((cc k).map (hJ c1 cs (fZ c1))):Nat)),Z9 (.int k),Z9 w,o11,Z8,Z8,Z8] H2;refine bG (dC (fK hκ hφ (sl pI (.qL (.da An (.no (.no (.no (.no .nil))))))) (b:=fZ c1 k) (aN (z0l (k:=fZ c1 k) (cF (z0m (z00 (z0m (z00 (z02 rfl) (z00 z05.e z09)) rfl h1 rfl).e (z00 (cF z05.e (z02 rfl) rfl rfl).e z09)) rfl (zI c1 (k:=20+k) (by omega) (by omega)) rfl).e z05.e (j' (by decide)) rfl).e z05.e (by show Res.ok _=_;exact congrArg Res.ok (Sv _ _))).e rfl) λH3 s3=>?_));have jC:=pI.trans s3;have GA:=An.same (B':=AnyB) s3 λ_ z=>z;by_cases hb:fZ c1 k=Z7
  .rw[ya hb];have GB:hJ c1 cs (fZ c1) k=1:=ya hb;refine dH (eD hκ hφ (sl jC (.qL (.da GA (.no (.no (.no (.no .nil))))))) (d:=.list (Gv p (decide (bL c1 k=1)))) (Ev.of (WD (hs:=hs) rfl)) λv11 H4 s4 WL=>?_);have GC:=jC.trans s4;show wS Z _ _ [Z9 v0,Z9 v1,Z9 v2,Z9 v3,Z9 v4,o5,o6,Z9 (.ref p7),Z9 (.int (fM ((cc k).map (hJ c1 cs (fZ c1))):Nat)),Z9 (.int k),Z9 w,Z9 v11,Z8,Z8,Z8] H4;have Mh:=GA.same (B':=AnyB) s4 λ_ z=>z;have hv:aF [] Φl (.lst (.cons (.tup (.cons (.tup (.cons (.tup .nil) (.cons (.ix (.var 11) (.int 0)) .nil))) (.cons (.str "for") (.cons (.tup .nil) .nil)))) .nil)) [Z9 (.od,.list (xs.map .int)),Z8,Z8,Z8,Z8,Z8,Z8,Z8,Z8,Z9 (.od,.int k),Z9 (.od,opD (cU p hs k (bL c1 k))),Z9 (.od,.list (Gv p (decide (bL c1 k=1)))),Z8,Z8,Z8]=.ok (.fr,.list ([tR p (bL c1 k)].map cC)):=by refine eC (aJ (cY (aJ (cY (aJ (cY aY) (aJ (v_ix (d:=pk (kM p (decide (bL c1 k=1)))) (z02 rfl) z05.e ?_ (eF _)) aY))) (aJ cM (aJ (cY aY) aY)))) aY);cases decide (bL c1 k=1)<;>rfl
   refine bG (WH (vQ (Sl.so (sl GC (.qL (.da Mh (.da WL (.no (.no (.no .nil)))))))) (by rw[hκ,hφ];exact hv) λy5 H5 s5 r5=>aQ (v:=.ref p7) rfl (eD hκ hφ (sl (GC.trans s5) (.qL (.da (Mh.same (B':=AnyB) s5 λ_ z=>z) (.no (.no (.no (.no .nil))))))) (d:=.str (nmO p (1+k%4))) (v_ix (z02 rfl) z05.e rfl rfl).e λvn H6 s6 rn=>?_)));obtain⟨rfl,Mj⟩:=rn;rw[kn]at Mj ⊢;have BA:Same H2 H6:=s3.trans (s4.trans (s5.trans s6));have Ml:=BA _ _ Gz;refine .inl ⟨p7,_,rfl,DPut.k (k:=.inr (nmO p (1+k))) Ml ?_,bU Z (bU Z ?_)⟩
   .have :=Mf rk;have:=bk.l;rw[dw];omega
   have rr:aS Z.K H6 (Bw Hb p7) (putK ks (.inr (nmO p (1+k))) y5) (iF (hF bs (nmO p (1+k)) [tR p (bL c1 k)])):=by
    rw[<-V7];refine aS.put (k:=.inr (nmO p (1+k))) Mj ((r5.same s6 λ_ z=>z).weak λa z=>?_) (rk.same (s2.trans BA) λ_ z=>z);cases a with
    |none=>exact z.elim
    |some a=>have z:H4 a=none:=z;refine⟨GC.none z,λe=>?_⟩;cases e;rw[s4 _ _ (s3 _ _ Gz)]at z;cases z
   refine nx _ _ ⟨λb ob eb=>?_,_,_,Z9 (.int k),Z9 w,Z9 v11,aT,aS.Gs rr Ml,WB bk (by omega) hb,?_⟩ λb ob nb eb=>?_
   .rw[aB λz=>by rw[z,h7]at eb;cases eb];exact BA _ _ (pI _ _ eb)
   .rw[Mg,GB,uc]
   .rw[aB nb];exact BA _ _ (s2 _ _ eb)
  .rw[yb hb];have GB:hJ c1 cs (fZ c1) k=nW (bL c1 k) cs (dJ [] cs):=yb hb;have w3:0<=bL c1 k/\bL c1 k<3:=⟨g8 _ (by decide),gg _ (by decide)⟩;refine dH (WG (aQ (v:=.int _) rfl ?_));refine iE f4 (aV (aQ rfl (aV (aQ rfl (dN ⟨p,hs,k,bL c1 k,cs,w,v4,rfl,⟨GA,r4.same jC λ_ z=>z,by omega,λc h=>(hc c h).1,hl⟩,λH4 zs s4 pz=>?_⟩)))));have ez:nW (bL c1 k) cs zs=nW (bL c1 k) cs (dJ [] cs):=by unfold nW;rw[pz]
   have lz:zs.length<=6:=by have:=AU cs [];rw[pz];simp only[ox]at this;omega
   have n7:=WE (bL c1 k) (cs:=cs) lz;refine⟨AnyB,AnyB,.int (fM ((cc k).map (hJ c1 cs (fZ c1))):Nat),.int (nW (bL c1 k) cs zs:Nat),_,rfl,rfl,JD (by omega),λv8 H5 s5 r8 _=>?_⟩;obtain rfl:v8=.int _:=r8;have BB:Same H2 H5:=s3.trans (s4.trans s5);refine bU Z (bU Z (nx _ _ ⟨pI.trans BB,ks,bs,Z9 (.int k),Z9 w,o11,BB _ _ Gz,rk.same (s2.trans BB) λ_ z=>z,WC bk hb,?_⟩ λb ob _ eb=>BB _ _ (s2 _ _ eb)));rw[Mg,GB,<-ez,tj];rfl
 .rintro σ' H' ⟨s',ks,bs,o9,o10,o11,e7,rk,bk,rfl⟩
  rw[ae,jd,vU]at bk ⊢;exact q H' bs o9 o10 o11 s' ⟨p7,ks,rfl,e7,trivial,rk.same (B':=AnyB) (Same.refl _) λ_ _=>trivial⟩ bk
end
theorem Mm (h:ρ[i]?=Z9 (Z9 (g,.list (a.map .int)))):Vv [] Φ (L66.sm i) ρ (.int (cut a Z8 (Z9 63)).sum):=pW (zw (z02 h) C8 (yZ z05.e) (Uz _ _ _)) rfl (Wu _) rfl
def eV (xs:List Int):Str:=fC (mU (cut xs Z8 (Z9 63)).sum 1) (cc (mU (cut xs Z8 (Z9 63)).sum 1%11).toNat)
theorem WM (a:List Int):(eV a).length<=10:=by unfold eV;rw[F7,fz];omega
theorem WN:aF [] Φl L66.K9 [Z9 (.od,.list (a.map .int)),Z8,Z8,Z8,Z8,Z8,Z8,Z8,Z8,Z8,Z8,Z8,Z8,Z8,Z8]=.ok (.fr,nmD (eV a)):=by exact z1f (Φ:=Φl) (ρ:=[Z9 (.od,.list (a.map .int)),Z8,Z8,Z8,Z8,Z8,Z8,Z8,Z8,Z8,Z8,Z8,Z8,Z8,Z8]) (nt:=1) (js:=[0]) (N':=["_law_k","_law_script"]) (tg:=.nm 0) (it:=.iM (.cons (.int 10) .nil)) (elt:=.call 3 "_law_name" (.cons (L66.mx (L66.sm 1) (.int 1)) (.cons (.var 0) .nil))) (λ_=>Z7) (λk=>.str (nmO (eV a) k)) (JJ (z00 z05.e z09) (Es (by decide) (by decide))) rfl (λk=>[Z9 (.al,.int k),Z9 (.od,.list (a.map .int))]) (λk _=>rfl) (λ_ _=>oV) λk hk _=>z0m (z00 (z0m (z00 (Mm rfl).e (z00 z05.e z09)) rfl (zI _ (by decide) (by decide)) rfl).e (z00 (z02 rfl) z09)) rfl (VP _ (gf.mp hk)) rfl
theorem WO {K:Z5}(r:Rep K H B v (nmD p)):dB p:=λk hk=>by obtain⟨a,vs,rfl,_,rs⟩:=r;obtain⟨u,_,ru⟩:=aD.get rs (by rw[ar,ar,i5 hk];rfl);exact ru.2
theorem WQ (h0:0<=i)(h1:i<8):∃k:Nat,k<10/\eR (.list (([7,8,0,1,6,9,7,8]:List Int).map .int)) (.int i)=.ok (.int k):=by
 have:i=0\/i=1\/i=2\/i=3\/i=4\/i=5\/i=6\/i=7:=by omega
 rcases this with rfl|rfl|rfl|rfl|rfl|rfl|rfl|rfl
 .exact⟨7,by decide,rfl⟩
 .exact⟨8,by decide,rfl⟩
 .exact⟨0,by decide,rfl⟩
 .exact⟨1,by decide,rfl⟩
 .exact⟨6,by decide,rfl⟩
 .exact⟨9,by decide,rfl⟩
 .exact⟨7,by decide,rfl⟩
 .exact⟨8,by decide,rfl⟩
section
variable {Z:Wc}{H:Hp}{D0:Ends}{xs:List Int}{v0:V}
theorem zny (a:Z.Κ=[])(b:Z.Φ=Φl)(I:Z.fn[0]?=Z9 (spRf Z.K))(J:Z.fn[1]?=Z9 (spAs Z.K))(L:Z.fn[2]?=Z9 (spSe Z.K Z.mg))(M:Z.fn[3]?=Z9 (spRd Z.K Z.mg))(N:Z.fn[4]?=Z9 (spWs Z.K))(hx:xs.length<=63)(c:Rep Z.K H B v0 (.list (xs.map .int)))(q:∀s,Same H s->D0.rt (.bl Z7) s):
  wS Z L66.lw D0 [Z9 v0,Z8,Z8,Z8,Z8,Z8,Z8,Z8,Z8,Z8,Z8,Z8,Z8,Z8,Z8] H:=by
 have c:=c.weak λ_ _=>trivial;obtain⟨A,O⟩:=Fy xs (k:=0) (by decide);obtain⟨f,C⟩:=Fy xs (k:=1) (by decide);refine dH (eD a b (ρ:=[Z9 (.od,.list (xs.map .int)),Z8,Z8,Z8,Z8,Z8,Z8,Z8,Z8,Z8,Z8,Z8,Z8,Z8,Z8]) (.da c (.no (.no (.no (.no (.no (.no (.no (.no (.no (.no (.no (.no (.no (.no .nil))))))))))))))) (Ev.of WN) λv1 H1 D r1=>?_);have E:=WM xs;have hs:=WO r1;generalize eV xs=p at r1 hs E;refine dH (eD a b (ρ:=[Z9 (.od,.list (xs.map .int)),Z9 (.od,nmD p),Z8,Z8,Z8,Z8,Z8,Z8,Z8,Z8,Z8,Z8,Z8,Z8,Z8]) (.da (c.same D λ_ z=>z) (.da r1 (.no (.no (.no (.no (.no (.no (.no (.no (.no (.no (.no (.no (.no .nil))))))))))))))) (iA (z00 (z02 rfl) (z00 (z02 rfl) z09)) rfl (VS hs O C)) λv2 H2 v r2=>?_);have hm:(1+A%4).toNat<=4:=by omega
 generalize (1+A%4).toNat=m at r2 hm;have P:aF [] Φl L66.K' [Z8,Z8,Z9 (.od,.list ((rwsO p hs f m).map bA)),Z8,Z8,Z8,Z8,Z8,Z8,Z8,Z8,Z8,Z8,Z8,Z8]=.ok (.fr,.list ((opsL p hs f m).map opD)):=by have hc:=z1f (Κ:=[]) (Φ:=Φl) (ρ:=[Z8,Z8,Z9 (.od,.list ((rwsO p hs f m).map bA)),Z8,Z8,Z8,Z8,Z8,Z8,Z8,Z8,Z8,Z8,Z8,Z8]) (nt:=1) (js:=[]) (N':=["_law_row"]) (tg:=.nm 0) (it:=.tv (.var 2)) (cond:=.tv (.cmp .Eq (.ix (.var 0) (.int 0)) (.str "open"))) (elt:=.var 0) bK bA (bR (x:=.list ((rwsO p hs f m).map bA)) rfl rfl) rfl (λr=>[Z9 (.al,bA r)]) (λr _=>pD (vS r)) (λr _=>by cases r<;>rfl) (λr _ _=>v_var rfl (vS r));rw[Gg,dh]at hc;exact hc
 refine dH (eD a b (.no (.no (.da r2 (.no (.no (.no (.no (.no (.no (.no (.no (.no (.no (.no (.no .nil))))))))))))))) (Ev.of P) λv3 H3 t r3=>?_);have i:=D.trans (v.trans t);refine dH (mO (dN ⟨cy _,λF Q=>?_⟩));refine bG (zo8 a b (c.same i λ_ z=>z) (r1.same (v.trans t) λ_ z=>z) Q hx λR cs S o5 o6 j T rv hl hc=>?_);have r4:Rep Z.K R AnyB (.ref F) (thD p cs):=⟨F,S,rfl,.inl ⟨T,trivial⟩,rv⟩;have l:=i.trans j;refine dH ?_;intro p7 U;refine dH (E3 λH5 V=>?_);refine bG (zs2 a b N C (c.same l λ_ z=>z) (r3.same j λ_ z=>z) r4 hm hl hc U V λH6 bs o9 W X w r7 bk=>?_);have n:=l.trans w;have o:=r1.same ((v.trans t).trans (j.trans w)) λ_ z=>z;have G:0<=mU (cut xs Z8 (Z9 63)).sum 3%8/\mU (cut xs Z8 (Z9 63)).sum 3%8<8:=⟨g8 _ (by decide),gg _ (by decide)⟩;obtain⟨ki,hk,ek⟩:=WQ G.1 G.2;refine dH (eD a b (ρ:=[Z9 (.od,.list (xs.map .int)),Z9 (.od,nmD p),Z8,Z8,Z8,Z8,Z8,Z8,Z8,Z8,Z8,Z8,Z8,Z8,Z8]) (.da (c.same n λ_ z=>z) (.da o (.no (.no (.no (.no (.no (.no (.no (.no (.no (.no (.no (.no (.no .nil))))))))))))))) (tP rfl (v_ix (Ev.of (eC (aJ z05 (aJ z05 (aJ z05 (aJ z05 (aJ z05 (aJ z05 (aJ z05 (aJ z05 aY)))))))))) (cF (z0m (z00 (Mm rfl).e (z00 z05.e z09)) rfl (zI _ (by decide) (by decide)) rfl).e z05.e (j' (by decide)) rfl).e ek rfl).e hk).e λXT H7 u y=>?_);obtain⟨rfl,_⟩:=y;have d:=w.trans u;refine zqw a b I J L M ⟨o.same u λ_ z=>z,r2.same (t.trans (j.trans d)) λ_ z=>z,r3.same (j.trans d) λ_ z=>z,r4.same d λ_ z=>z,r7.same u λ_ z=>z,hm,hl,hc,λk hk=>?_⟩ (Same.refl H7) hk E λs s'=>q s (n.trans (u.trans s'));rw[bk.g k (by omega)];by_cases h:fZ f k=Z7
 .rw[ya ⟨hk,h⟩,ya h]
 .rw[yb λz=>h z.2,yb h]
end
def top (i:Nat):Stmt:=PySem.Challenge.pw_likebook_k66_too_many_uses.main.body.getD i (.Pass ⟨0,0,0,0⟩)
def eU:Nat->S
 |0=>.nil
 |n+1=>.seq .bad (eU n)
abbrev FREE:List Str:=["isinstance","str","len","range","list","dict","enumerate","min","max","int","tuple","sorted","set","ValueError","any","all","zip","sum"]
abbrev Rz:List aK:=[
 ⟨"check_side",top 7,["side"],["side"],["isinstance","str"],[],zg,oZ,.n,[]⟩,
 ⟨"other_side",top 8,["side"],["side"],[],[0],zh,kC,.n,[]⟩,
 ⟨"side_of",top 9,["case","side"],["case","side"],[],[0],zi,gX,.n,[]⟩,
 ⟨"greatest",top 11,["pairs","found","name","amount"],["pairs"],["tuple","sorted","max"],[],sX,kE,.n,[]⟩,
 ⟨"degree",top 12,["one","name"],["one","name"],["dict"],[],zj,kF,.n,[]⟩,
 ⟨"over",top 14,["one","other","held"],["one","other"],["dict"],[],zk,kG,.n,[]⟩,
 ⟨"within",top 13,["one","other"],["one","other"],[],[5],zm,sY,.n,[]⟩,
 ⟨"ruling",top 16,["case","side","reason"],["case","side","reason"],[],[6,2],zo,sZ,.n,[]⟩,
 ⟨"opposed_of",top 17,["one"],["one"],[],[2,1],zp,lY,.n,[]⟩,
 ⟨"apart",top 19,["one","case","side","less","more"],["one","case"],[],[5,8,2,1],zr,tE,.n,[]⟩,
 ⟨"binds",top 18,["one","case"],["one","case"],[],[9],Km,vG,.n,[]⟩,
 ⟨"binding",top 21,["book","case","k","one"],["book","case"],["enumerate"],[10],E6,E7,.n,[]⟩,
 ⟨"fullest",top 22,["case","side"],["case","side"],[],[7,2],Kn,E8,.n,[]⟩,
 ⟨"of_facts",top 24,["act","thing","facts"],["act","thing"],["tuple"],[],Kq,tF,.n,[]⟩,
 ⟨"holds",top 25,["saying","thing","words","kind"],["saying","thing","words"],[],[4],Kr,vH,.n,[]⟩,
 ⟨"so",top 26,["asking","things","holding","kind"],["asking","things","holding"],["all","zip","any"],[14],Ks,A',.n,[]⟩,
 ⟨"pack_of",top 27,["names","thing","words"],["names","thing","words"],[],[3,4],E9,vI,.n,[]⟩,
 ⟨"case_of",top 28,["row","thing","words"],["row","thing","words"],[],[16],Fb,Ba,.n,[]⟩,
 ⟨"with_word",top 33,["row","known","reading","holding","thing","words","more"],["row","known","reading"],["zip"],[14],Kt,Fe,.n,[]⟩,
 ⟨"open_uses",top 31,["act","many"],["act","many"],["len"],[],Ku,Ff,.n,[]⟩,
 ⟨"_law_cell_at",top 40,["_law_script","_law_k"],["_law_script","_law_k"],["len"],[],Kv,z6r,.n,[]⟩,
 ⟨"_law_mix",top 41,["_law_cell","_law_k","_law_some"],["_law_cell","_law_k"],[],[],Kw,zt,.n,[]⟩,
 ⟨"_law_name",top 42,["_law_cell","_law_k","_law_letters","_law_name_here","_law_j"],["_law_cell","_law_k"],["range"],[],Ky,Fg,.n,[]⟩,
 ⟨"_law_rows",top 43,["_law_script","_law_names","_law_many","_law_rows_here","_law_k","_law_way","_law_lists"],["_law_script","_law_names"],["range"],[21,20],Kz,Fh,.n,[]⟩,
 ⟨"continued",top 36,["reading","entries","number","names","holding"],["reading","entries","number","names"],FREE,[],eU 3,aM [] [] 5 (eU 3),.n,[]⟩,
 ⟨"ways",top 35,["row","book","number","thing","reading","name","case","bound"],["row","book","number","thing","reading"],FREE,[12,11,17],eU 5,aM [] Φy 8 (eU 5),.n,[]⟩,
 ⟨"with_open",top 34,["row","book","known","found","number","thing","longer","reading"],["row","book","known","found"],FREE,[],eU 2,aM [] [] 8 (eU 2),.n,[]⟩,
 ⟨"readings",top 32,["act","books","things","known","found","row"],["act","books","things"],FREE,[13,19,18],eU 5,aM [] Φr 6 (eU 5),.n,[]⟩,
 ⟨"asking_of",top 37,["act","claim","row"],["act","claim"],FREE,[],eU 2,aM [] [] 3 (eU 2),.n,[]⟩,
 ⟨"settled",top 38,["act","books","things","claim","asking","known","yes","no","reading"],["act","books","things","claim"],FREE,[13,15],eU 8,aM [] FW 9 (eU 8),.n,[]⟩,
 ⟨"_law_ways",top 44,["_law_row","_law_things","_law_unlike"],["_law_row","_law_things"],FREE,[],eU 4,aM [] [] 3 (eU 4),.n,[]⟩,
 ⟨"_law_refused",top 45,["_law_rows_here","_law_books","_law_things","_law_claim","e"],["_law_rows_here","_law_books","_law_things","_law_claim"],FREE,[],eU 2,aM [] [] 5 (eU 2),.n,[]⟩,
 ⟨"_law_asking",top 46,["_law_rows_here","_law_name_here","_law_due","_law_found","e"],["_law_rows_here","_law_name_here"],FREE,[],eU 3,aM [] [] 5 (eU 3),.n,[]⟩]
abbrev Lr:aK:=⟨"law",top 47,["_law_script","_law_names","_law_rows_here","_law_opens","_law_things","_law_cell","_law_count","_law_books","_law_ways_here","_law_k","_law_row","_law_packs","_law_asked_name","_law_due","_law_found"],["_law_script"],FREE,[23,21,20,22],eU 18,aM [] Φl 15 (eU 18),.n,[]⟩
abbrev Xt:List XR:=[⟨"TooMuch",[("TooMuch",Z7),("Unknown",Z6)],"BookError"⟩]
def WR (i:Nat):Stmt->Stmt
 |.ClassDef _ _ _ b ..=>b.getD i (.Pass ⟨0,0,0,0⟩)
 |s=>s
abbrev iU:Stmt:=WR 0 (top 5)
abbrev xU:kB:=⟨"Unknown","name","BookError",[("TooMuch",Z6),("Unknown",Z7)],iU⟩
abbrev xV:kB:=⟨"Unknown","name","Unknown",[],iU⟩
abbrev WT:List (Str×Str×Bool):=(Xt.map XR.subs).flatten++([("Unknown","ValueError",Z7),("Unknown","TooMuch",Z6),("Unknown","Unknown",Z7)]:List (Str×Str×Bool))
abbrev HN:List (Str×Str):=(Xt.map λr=>(r.c,r.B))++([("Unknown","BookError"),("Unknown","Unknown")]:List (Str×Str))
abbrev Mn:List (Str×Str):=[("Unknown","name")]
abbrev GF:List aK:=[⟨"__init__",iU,["self","name"],["self","name"],FREE,[],eU 1,λ_=>.no,.n,[]⟩]
theorem WU:pS GF Xt FREE 0 GF=true:=by decide+kernel
theorem eM:pS (Rz++[Lr]) Xt FREE 0 (Rz++[Lr])=true:=by decide+kernel
theorem WV:oT (Rz++[Lr]) (Rz++[Lr]):=⟨rfl,rfl,rfl,rfl,rfl,rfl,rfl,rfl,rfl,rfl,rfl,rfl,rfl,rfl,rfl,rfl,rfl,rfl,rfl,rfl,rfl,rfl,rfl,rfl,rfl,rfl,rfl,rfl,rfl,rfl,rfl,rfl,rfl,rfl,trivial⟩
inductive eN {α β:Type}(R:α->β->Prop):List α->List β->Prop where
 |nil:eN R [] []
 |cons {a:α} {b:β} {l:List α} {m:List β} (h:R a b) (t:eN R l m):eN R (a::l) (b::m)
theorem eN.at {c d:Type}{R:c->d->Prop}{l:List c}{m:List d}(h:eN R l m):∀{j:Nat} {a:c},l[j]?=Z9 a->∃b,m[j]?=Z9 b/\R a b:=by
 induction h with
 |nil=>intro j a e;cases e
 |cons h t f=>
  intro j a e;cases j with
  |zero=>cases e;exact⟨_,rfl,h⟩
  |succ j=>exact f e
section
variable (P:cg)(w:World)(K:Z5)(mg:Str->Option Value)(base:Heap)
abbrev FX (k:Nat)(f:Addr)(fd:i4)(ps:List Str)(sp:Sp):Prop:=FnOk P w K mg base (CXE P w base) k f fd ps sp
def Fc (r:Nat)(x:Str×Nat)(sp:Sp):Prop:=∃f fd ps k,k<=r/\FX P w K mg base k f fd ps sp/\mg x.1=Z9 (.ref f)/\Z3 K (.ref f)=Z7/\Binds K fd ps []
variable {P w K mg base}
theorem Mo (b:Z.K=K)(c:Z.mg=mg)(f:eN (Fc P w K mg base r) a.fn Z.fn)(g:eN (λ(x:Str) (n:Int)=>∃t,mg x=Z9 (.int n t)) a.gi Z.gi)(d:a.me=[])(h:a.cl=[])(i:a.hf=[])(l:a.md=[])(m:a.mq=[]):Zok a Z (CXE P w base) P w K mg base r where
 kk:=b
 mm:=c
 fn:=λj x n e=>by obtain⟨o,b,f,fd,ps,k,d,h,i,l,m⟩:=f.at e;exact⟨o,f,fd,ps,k,b,d,h,i,l,m⟩
 me:=λj x n e=>by rw[d]at e;cases e
 cl:=λj x n e=>by rw[h]at e;cases e
 gi:=λj x e=>by obtain⟨n,b,t,c⟩:=g.at e;exact⟨n,t,b,c⟩
 hf:=λj x n e=>by rw[i]at e;cases e
 md:=λj x n e=>by rw[l]at e;cases e
 mq:=λj x n e=>by rw[m]at e;cases e
end
abbrev gM (st:Stmt)(N:List Str)(fns:List (Str×Nat)):Gm:={N:=N,sc:=z08 st,free:=FREE,fns:=fns,cst:=[],sub:=WT,rs:=Xt.map (·.c),fG:=HN}
abbrev gH (r:aK)(fn fns:List (Str×Nat))(gi:List Str)(fld:List (Str×Str):=[]):Gw:={g:=gM r.st r.N fns,fn:=fn,me:=[],cl:=[],gi:=gi,fld:=fld}
abbrev zH (K:Z5)(mg:Str->Option Value)(fn:List Sp)(Φ:List Fn)(gi:List Int):Wc:={K:=K,mg:=mg,Κ:=[],Φ:=Φ,E:=λ_ _ _=>False,fn:=fn,me:=[],cl:=[],gi:=gi}
theorem mC {i:Nat}(h:pS a Xt FREE 0 a=Z7)(e:a[i]?=Z9 r):FnScope r.N r.ps (z08 r.st):=(yN (D8 h e)).1
theorem WW {P:cg}{w:World}{K:Z5}{mg:Str->Option Value}{base:Heap}{k:Nat}{f:Addr}{fd:i4}{ps:List Str}{sp Mp:Sp}(F:FnOk P w K mg base (CXE P w base) k f fd ps sp)(h:∀vs H Q E,Mp vs H Q E->sp vs H Q λ_ _ _=>False):FnOk P w K mg base mG k f fd ps Mp:=
 ⟨λvs H Q E q=>F.len vs H Q _ (h _ _ _ _ q),λA outer s H args us vs Q E hr he hb hv hs=>ky (F.run A outer s H args us vs Q _ hr he hb hv (h _ _ _ _ hs)) λr s' z=>by
  cases r with
  |error e=>obtain⟨_,_,_,_,_,_,z⟩:=z;exact z.elim
  |ok x=>cases x<;>exact z⟩
def zM:Fn:=λds=>match ds with
 | [.list xs]=>if(xs.all λx=>match x with|.int _=>Z7|_=>Z6)&&decide (xs.length<=63)then .ok (.fr,.bool Z7)else .no
 |_=>.no
theorem WX {a:List Int}(b:a.length<=63):zM [.list (a.map .int)]=.ok (.fr,.bool Z7):=by show(if((a.map ZV).all _&&decide ((a.map ZV).length<=63))=Z7 then Res.ok (G.fr,ZT Z7)else Res.no)=_;rw[ya];rw[ae,yf b,Bool.and_true,w5,cx];intro x _;rfl
theorem jD:∀{a:List D},(a.all λx=>match x with|.int _=>Z7|_=>Z6)=Z7->∃b:List Int,a=b.map .int
 | [],_=>⟨[],rfl⟩
 |y::a,h=>by
  rw[eg,bn]at h;obtain⟨b,e⟩:=jD h.2;cases y with
  |int i=>exact⟨i::b,by rw[e];rfl⟩
  |_=>cases h.1
def WY (f:Str):WS:=.seq (.A0 (.raw 0) f (.raw 1)) .nil
section
variable {P:cg}{w:World}{K:Z5}{mg:Str->Option Value}{base:Heap}
structure Tx (K:Z5)(mg:Str->Option Value):Prop where
 T:∀n∈FREE,mg n=Z8
 xk:∀Γ:Gm,Γ.sub=(Xt.map XR.subs).flatten->Γ.rs=Xt.map (·.c)->(Γ.fG=Xt.map λr=>(r.c,r.B))->pR Γ K mg
 mu:∃t,mg "MOST_USES"=Z9 (.int 8 t)
 G:∀(x:Str) (v:Value),Z1 K ce x=Z9 (Z9 v)->mg x=Z9 v
 XU:∃A D f fd,XAt K xU A D f fd
 XV:∃A D f fd,XAt K xV A D f fd
theorem GG (t:Tx K mg){st:Stmt}:pR (gM st N fns) K mg:=by
 have d:=t.xk {gM st N fns with sub:=(Xt.map XR.subs).flatten,fG:=Xt.map λr=>(r.c,r.B)} rfl rfl rfl;refine⟨λc C b h=>?_,d.rs,λc B h=>?_⟩
 .rcases bw.mp (cn.mp h)with h|h
  .exact d.sub c C b (cn.mpr h)
  .obtain⟨A,D,f,fd,a⟩:=t.XU;have cs:∀y∈xU.cs,IS K mg "Unknown" y.1 y.2:=λy g=>by obtain⟨E,i,j,k,l⟩:=a.cs y g;exact⟨A,.ref E,.ref E,t.G _ _ a.ns,a.xa,XV.own k j,l,rfl,λw q=>q,.inl (t.G _ _ i)⟩
   rcases au.mp h with e|h
   .cases e;exact⟨A,.ty "ValueError",.type "ValueError",t.G _ _ a.ns,a.xa,XV.val,a.sv,rfl,λw q=>q,.inr ⟨(t.T _ (by decide)),by decide+kernel,by decide⟩⟩
   rcases au.mp h with e|h
   .cases e;simp_all
   .cases ag.mp h;simp_all
 .rcases bw.mp (cn.mp h)with h|h
  .exact d.fG c B (cn.mpr h)
  .rcases au.mp h with e|h
   .cases e;obtain⟨A,D,f,fd,a⟩:=t.XU;exact⟨A,D,t.G _ _ a.ns,t.G _ _ a.nb,a.xf.ex,a.ed,a.sd⟩
   .cases ag.mp h;obtain⟨A,D,f,fd,a⟩:=t.XV;exact⟨A,D,t.G _ _ a.ns,t.G _ _ a.nb,a.xf.ex,a.ed,a.sd⟩
def Fd (P:cg)(w:World)(K:Z5)(mg:Str->Option Value)(base:Heap)(k:Nat)(x:Str×Nat)(m:Fn):Prop:=∃ps k',k'<=k/\Cal P w K mg base k' x.1 ps (spD K x.2 m)/\lN P w K mg base k' x.1 ps x.2 m
theorem WZ (h:pT P w K mg base i r)(a:r.kd=.n)(b:i+1<=k):Fd P w K mg base k (r.nm,r.ps.length) r.F:=by unfold pT at h;rw[a]at h;exact⟨r.ps,i+1,b,h.1,h.2⟩
theorem zN (t:Tx K mg){st:Stmt}(h:eN (Fd P w K mg base k) fns Φ):Dok (gM st N fns) [] Φ P w K mg base k where
 free:=λx hx=>t.T x (cn.mp hx)
 fns:=λj f n e=>by obtain⟨m,a,ps,b,c,d,g⟩:=h.at e;exact⟨m,b,ps,a,c,d⟩
 cst:=λj x e=>by cases e
 mJ:=λj f n e=>by obtain⟨m,a,ps,b,c,d,g⟩:=h.at e;exact⟨m,b,ps,a,c,g⟩
 xk:=GG t
theorem W0 (t:Tx K mg):∀(Γ:Gw) (X:Cx) (r:Nat),2<=r->Γ.fld=Mn->X.prog=P->X.w=w->X.K=K->X.mg=mg->X.base=base->Wfk Γ X r:=by
 intro Γ X r hr hf b hw d hm hb;subst b hw d hm hb;intro c fl hc;rw[hf]at hc;cases ag.mp (cn.mp hc);obtain⟨A,D,f,fd,a⟩:=t.XU;refine⟨A,f,fd,["self","name"],1,t.G _ _ a.ns,a.xf,a.xi,hr,?_,a.fu.binds λ_ _ _ _ _ _=>fY λ_ _=>rfl⟩;refine zc (Γ:=gH (GF.getD 0 Lr) [] [] []) (Z:=zH X.K X.mg [] [] []) (s:=WY "name") a.fu (mC WU (i:=0) rfl) rfl rfl (zN t .nil) (λE=>Mo rfl rfl .nil .nil rfl rfl rfl rfl rfl) rfl (.inl rfl) (by decide+kernel) (by rintro _ _ _ _ ⟨_,_,_,_,_,rfl,_⟩;rfl) ?_
 rintro _ _ _ _ ⟨x,C,ob,ws,y,rfl,hx,hc,hd,da,xf,q⟩
 exact⟨y,rfl,.ref x,rfl,x,C,ob,ws,rfl,hx,hc,hd,da,xf,λdp e g=>q dp e g⟩
theorem wm66 (t:Tx K mg)(Fu:Fun K x qual r.st f fd)(Sc:FnScope r.N r.ps (z08 r.st))
  (a0:eN (Fd P w K mg base k) fns Φ:=by exact .nil) (a1:eN (Fc P w K mg base k) fn fS:=by exact .nil) (a2:eN (λx n=>∃t,mg x=Z9 (.int n t)) gi gS:=by exact .nil)
  (kf:fld=[]\/fld=Mn/\2<=k:=by exact .inl rfl) (hc:wkL (gH r fn fns gi fld) s (z0j r.st)=true:=by decide+kernel) (run:∀vs H Q E (zG:Prop),(vs.length=r.ps.length->wS {zH K mg fS Φ gS with E:=E} s {nx:=λ_ H'=>Q .non H',rt:=Q} (start r.N vs) H->zG)->sp vs H Q E->zG):FX P w K mg base (k+1) f fd r.ps sp:=
 zc Fu Sc rfl rfl (zN t a0) (λE=>Mo rfl rfl a1 a2 rfl rfl rfl rfl rfl) rfl (kf.imp_right λh X h1 h2 h3 h4 h5=>W0 t _ X k h.2 h.1 h1 h2 h3 h4 h5) hc (λvs H Q E=>run vs H Q E _ λa _=>a) λvs H Q E=>run vs H Q E _ λ_ b=>b
theorem Fc.mono (h:Fc P w K mg base r x a)(hr:r<=b):Fc P w K mg base b x a:=by obtain⟨f,fd,ps,k,c,d⟩:=h;exact⟨f,fd,ps,k,bp c hr,d⟩
theorem W2 (t:Tx K mg)(dd:∀i r,i<24->(Rz++[Lr])[i]?=Z9 r->pT P w K mg base i r)(O:∀i r,i<33->(Rz++[Lr])[i]?=Z9 r->Own K mg r.nm r.st r.ps){f:Addr}{fd:i4}(Fl:Fun K "law" "law" (top 47) f fd):FnOk P w K mg base mG 31 f fd ["_law_script"] (spD K 1 zM):=by
 obtain⟨f1,W3,W4,m1,k1,b1⟩:=O 24 _ (by decide) rfl;obtain⟨f2,Ke,W5,m2,k2,b2⟩:=O 25 _ (by decide) rfl;obtain⟨f3,W6,W7,m3,k3,b3⟩:=O 26 _ (by decide) rfl;obtain⟨f4,W8,W9,m4,k4,b4⟩:=O 27 _ (by decide) rfl;obtain⟨f5,W',Xa,m5,k5,b5⟩:=O 28 _ (by decide) rfl;obtain⟨f6,Xb,Xc,m6,k6,b6⟩:=O 29 _ (by decide) rfl;obtain⟨f7,Xd,Xe,m7,k7,b7⟩:=O 30 _ (by decide) rfl;obtain⟨f8,Xf,Xg,m8,k8,b8⟩:=O 31 _ (by decide) rfl;obtain⟨f9,Xi,Xj,m9,k9,b9⟩:=O 32 _ (by decide) rfl;have d:∀{i k:Nat} {r:aK},(Rz++[Lr])[i]?=Z9 r->i<24->r.kd=.n->i<k->Fd P w K mg base k (r.nm,r.ps.length) r.F:=λe hi hk h=>WZ (dd _ _ hi e) hk h;have A1:Fc P w K mg base 25 ("continued",4) (spCt K):=⟨f1,W3,_,25,ai _,wm66 (s:=L66.ct) t W4 (mC eM (i:=24) rfl) (run:=by rintro _ _ _ _ _ zq ⟨x,es,k,ns,v,ve,pn,rfl,a,q⟩;exact zq rfl (zoy rfl rfl a q)),m1,k1,b1⟩;have A2:Fc P w K mg base 26 ("ways",5) (spWy K):=⟨f2,Ke,_,26,ai _,wm66 (s:=L66.wy) t W5 (mC eM (i:=25) rfl) (a0:=.cons (d (i:=12) rfl (by decide) rfl (by decide)) (.cons (d (i:=11) rfl (by decide) rfl (by decide)) (.cons (d (i:=17) rfl (by decide) rfl (by decide)) .nil))) (a1:=.cons A1 .nil) (run:=by rintro _ _ _ _ _ zq ⟨o,rs,th,k,x,vr,vb,vt,v,rfl,a,q⟩;exact zq rfl (zri rfl rfl rfl a q)),m2,k2,b2⟩;have A3:Fc P w K mg base 27 ("with_open",4) (spWo K):=⟨f3,W6,_,27,ai _,wm66 (s:=L66.wo) t W7 (mC eM (i:=26) rfl) (a1:=.cons A2 .nil) (run:=by rintro _ _ _ _ _ zq ⟨o,rs,ths,l,B,vr,vb,vk,vf,rfl,a,q⟩;exact zq rfl (zo1 rfl rfl rfl a q)),m3,k3,b3⟩;have A4:Fc P w K mg base 28 ("readings",3) (spRd K mg):=⟨f4,W8,_,28,ai _,wm66 (s:=L66.rg) t W9 (mC eM (i:=27) rfl) (a0:=.cons (d (i:=13) rfl (by decide) rfl (by decide)) (.cons (d (i:=19) rfl (by decide) rfl (by decide)) (.cons (d (i:=18) rfl (by decide) rfl (by decide)) .nil))) (a1:=.cons A3 .nil) (a2:=.cons (b:=8) t.mu .nil) (run:=by rintro _ _ _ _ _ zq ⟨rows,es,bk,hd,fa,va,vb,vt,rfl,a,q,qE⟩;exact zq rfl (zrr rfl rfl rfl rfl a q qE)),m4,k4,b4⟩;have A5:Fc P w K mg base 25 ("asking_of",2) (tM K mg):=⟨f5,W',_,25,ai _,wm66 (s:=L66.ao) t Xa (mC eM (i:=28) rfl) (kf:=.inr ⟨rfl,by decide⟩) (run:=by rintro _ _ _ _ _ zq ⟨rows,cl,va,rfl,hc,ra,q,qE⟩;exact zq rfl (Vu rfl rfl hc ra q qE)),m5,k5,b5⟩;have A6:Fc P w K mg base 29 ("settled",4) (spSe K mg):=⟨f6,Xb,_,29,ai _,wm66 (s:=L66.st) t Xc (mC eM (i:=29) rfl) (a0:=.cons (d (i:=13) rfl (by decide) rfl (by decide)) (.cons (d (i:=15) rfl (by decide) rfl (by decide)) .nil)) (a1:=.cons A4 (.cons (A5.mono (by decide)) .nil)) (run:=by rintro _ _ _ _ _ zq ⟨rows,es,bk,hd,fa,cl,f,va,vb,vt,rfl,a,q⟩;exact zq rfl (VC rfl rfl rfl rfl a q)),m6,k6,b6⟩;have B1:Fc P w K mg base 25 ("_law_ways",2) (spWs K):=⟨f7,Xd,_,25,ai _,wm66 (s:=L66.ws) t Xe (mC eM (i:=30) rfl) (run:=by rintro _ _ _ _ _ zq ⟨p,hs,k,w,cs,vr,vt,rfl,a,q⟩;exact zq rfl (V1 rfl rfl a q)),m7,k7,b7⟩;have B2:Fc P w K mg base 30 ("_law_refused",4) (spRf K):=⟨f8,Xf,_,30,ai _,wm66 (s:=L66.rf) t Xg (mC eM (i:=31) rfl) (a1:=.cons (A4.mono (by decide)) (.cons A6 .nil)) (kf:=.inr ⟨rfl,by decide⟩) (run:=by rintro _ _ _ _ _ zq ⟨rows,es,bk,hd,fa,va,vb,vt,vc,rfl,a,q⟩;exact zq rfl (zpr rfl rfl rfl rfl a q)),m8,k8,b8⟩;have B3:Fc P w K mg base 26 ("_law_asking",2) (spAs K):=⟨f9,Xi,_,26,ai _,wm66 (s:=L66.asg) t Xj (mC eM (i:=32) rfl) (a1:=.cons A5 .nil) (kf:=.inr ⟨rfl,by decide⟩) (run:=by rintro _ _ _ _ _ zq ⟨rows,cl,va,rfl,a,q⟩;exact zq rfl (V6 rfl rfl rfl a q)),m9,k9,b9⟩
 let sp:Sp:=λvs H Q _=>∃(v0:V) (xs:List Int) (B:Ad->Prop),vs=[v0]/\xs.length<=63/\Rep K H B v0 (.list (xs.map ZV))/\∀H',Same H H'->Q (.bl Z7) H'
 have F8:FX P w K mg base 31 f fd ["_law_script"] sp:=wm66 (r:=Lr) (s:=L66.lw) t Fl (mC eM (i:=33) rfl) (a0:=.cons (d (i:=23) rfl (by decide) rfl (by decide)) (.cons (d (i:=21) rfl (by decide) rfl (by decide)) (.cons (d (i:=20) rfl (by decide) rfl (by decide)) (.cons (d (i:=22) rfl (by decide) rfl (by decide)) .nil)))) (a1:=.cons B2 (.cons (B3.mono (by decide)) (.cons (A6.mono (by decide)) (.cons (A4.mono (by decide)) (.cons (B1.mono (by decide)) .nil))))) (run:=by rintro _ _ _ _ _ zq ⟨v0,xs,B,rfl,hx,r0,q⟩;exact zq rfl (zny rfl rfl rfl rfl rfl rfl rfl hx r0 q));refine WW F8 λvs H Q E ⟨A,ds,x,h1,h2,h3,q⟩=>?_;unfold zM at h3;split at h3
 .rename_i ys;split at h3
  .rename_i hc;rw[bn,decide_eq_true_eq]at hc;cases h3;obtain⟨xs,rfl⟩:=jD hc.1;obtain⟨v,t,rfl,r0,hr⟩:=h2;have:t=[]:=hr;subst this;exact⟨v,xs,A,rfl,by have:=hc.2;rw[ae]at this;exact this,r0,λH' s=>q (.bl Z7) H' s rfl⟩
  .cases h3
 .cases h3
end
section
variable {w:World}{K:Z5}{mg:Str->Option Value}
theorem all66 {l:W.OpenLaw}(X:K.In h)(G:h.Ns ce mg)(hfa:mg "law"=Z9 (.ref fa))(hK:kOks K Rz)(kl:∃f fd,Kf K Lr f fd)(hz:∀n∈FREE,Z1 K ce n=Z9 Z8)(hkx:kxs K Xt)(mu:∃t,Z1 K ce "MOST_USES"=Z9 (Z9 (.int 8 t)))(XU:∃A D f fd,XAt K xU A D f fd)(XV:∃A D f fd,XAt K xV A D f fd):
  ∃fd:i4,(∀(s:aq) (v:Value),uf s fd ⟨[v],[]⟩ [("_law_script",v)])/\∀base:Heap,K.In base->base.Ns ce mg->FnOk l.prog w K mg base mG 31 fa fd ["_law_script"] (spD K 1 zM):=by
 obtain⟨f,fd,a,oc,od,an,sl,kV,dc,pm,cd,ct,rfl,lk,hc,hk⟩:=kl;have e:=hfa.symm.trans (W.mg_of X G a);cases e;have T:=λn hn=>W.mg_none_of X G (hz n hn);refine⟨W.fnOf "law" "law" (z11 (top 47)) (z0j (top 47)) (z08 (top 47)) .none kV dc pm an cd ct,λs v=>.of_eq rfl,λbase _ _=>?_⟩;have O:∀i r,i<33->(Rz++[Lr])[i]?=Z9 r->Own K mg r.nm r.st r.ps:=λi r hi e=>by rw[jg hi]at e;obtain⟨⟨f,fd,a,oc,od,an,sl,kV,dc,pm,cd,ct,rfl,lk,hc,hk⟩,hb⟩:=Jf hK e;exact zq0 X G a lk hc hk hb
 have xk:∀Γ:Gm,Γ.sub=(Xt.map XR.subs).flatten->Γ.rs=Xt.map (·.c)->(Γ.fG=Xt.map λr=>(r.c,r.B))->pR Γ K mg:=λΓ h1 h2 h3=>RU X G hkx (λ_=>T "ValueError" (by decide)) h1 h2 h3;have GH:((Rz++[Lr]).all λr=>r.kc.isEmpty)=true:=rfl;have Xk:∀r∈Rz++[Lr],∀y∈r.kc,D9 K mg y:=λr hr y hy=>by have:=cx.mp GH r hr;rw[rc.mp this]at hy;cases hy
 obtain⟨t,mu⟩:=mu;exact W2 ⟨T,xk,⟨t,W.mg_of X G mu⟩,λx v e=>W.mg_of X G e,XU,XV⟩ (λi r hi e=>RW eM WV T xk 24 Xk (λi r hi e=>O i r (by omega) e) i r hi e) O (Cj lk hc hk)
end
def tV:DefRec:=⟨"law",z11 (top 47),z0j (top 47),z08 (top 47),⟨198,0,229,83⟩⟩
theorem BD:KEq vY (Rz++[Lr]) FREE Xt:=by
 rw[PySem.W.Fast.tkeq_eq];intro P
 kernel_rfl
theorem Xl:Tp.said PySem.Challenge.rw_likebook_k66_too_many_uses=true:=by
 rw[PySem.W.Fast.tsaid_eq]
 kernel_rfl
theorem Xm:W.opening kT=W.plainProg kT.main.scope.names:=by kernel_rfl
theorem Xn:∀s,fenceModules? kT s=Z9 s:=λs=>by kernel_rfl
theorem Xo:W.defOf vX PySem.Challenge.rw_likebook_k66_too_many_uses.row.name=Z9 (tV,[]):=by kernel_rfl
theorem Xp:kT.theDef PySem.Challenge.rw_likebook_k66_too_many_uses.row.name=Z9 (tV.params,tV.body,tV.scope):=by kernel_rfl
theorem Xq:W.kwWritten? tV.params.kwonlyargs tV.params.kw_defaults=Z9 []:=by kernel_rfl
theorem Xr:(!PySem.Challenge.rw_likebook_k66_too_many_uses.row.writes||PySem.Challenge.rw_likebook_k66_too_many_uses.row.records.isEmpty)=true:=by kernel_rfl
theorem Xs:(W.chainsOk vX&&W.opensWell kT&&(W.frees PySem.Challenge.rw_likebook_k66_too_many_uses.row.toRowW&&PySem.Challenge.rw_likebook_k66_too_many_uses.row.within.isEmpty))=true:=by kernel_rfl
theorem walk {l:W.OpenLaw}{K:iz->Z5}(hn:l.most=Z9 63)(b:d.params.defaults=[])
  (c:∀(w:World) (h:Heap),e w h->(K w.params).In h)
  (F:∀(w:World) (mg:Str->Option Value) (fa:Addr) (h:Heap),(K w.params).In h->h.Ns ce mg->mg d.name=Z9 (.ref fa)->∃fd:i4,(∀(s:aq) (u:Value),uf s fd ⟨[u],[]⟩ [("_law_script",u)])/\∀base:Heap,(K w.params).In base->base.Ns ce mg->FnOk l.prog w (K w.params) mg base mG 31 fa fd ["_law_script"] (spD (K w.params) 1 zM)):
  W.WalkO q loose j e l.row.toRowW d [] (λf g=>PySem.call f g):=
 L2.walk_of hn (by decide) b ⟨rfl,by decide,by decide,rfl⟩ c F (λ_ _ a ns hl _ i=>⟨_,_,_,rfl,RT i,WX hl,λv k _ r=>r⟩) λ_ _ _ _ _ z=>z
theorem kX:KXq vY [xU,xV] [("MOST_USES",8)]:=by
 rw[PySem.W.Fast.tkxq_eq];intro P
 kernel_rfl
theorem GI:sI Rz:=⟨λ_ _ _ _ _ _=>yP λ_=>rfl,λ_ _ _ _ _ _=>yP λ_=>rfl,λ_ _ _ _ _ _=>fY λ_ _=>rfl,λ_ _ _ _ _ _=>yP λ_=>rfl,λ_ _ _ _ _ _=>fY λ_ _=>rfl,λ_ _ _ _ _ _=>fY λ_ _=>rfl,λ_ _ _ _ _ _=>fY λ_ _=>rfl,λ_ _ _ _ _ _=>pU λ_ _ _=>rfl,λ_ _ _ _ _ _=>yP λ_=>rfl,λ_ _ _ _ _ _=>fY λ_ _=>rfl,λ_ _ _ _ _ _=>fY λ_ _=>rfl,λ_ _ _ _ _ _=>fY λ_ _=>rfl,λ_ _ _ _ _ _=>fY λ_ _=>rfl,λ_ _ _ _ _ _=>fY λ_ _=>rfl,λ_ _ _ _ _ _=>pU λ_ _ _=>rfl,λ_ _ _ _ _ _=>pU λ_ _ _=>rfl,λ_ _ _ _ _ _=>pU λ_ _ _=>rfl,λ_ _ _ _ _ _=>pU λ_ _ _=>rfl,λ_ _ _ _ _ _=>pU λ_ _ _=>rfl,λ_ _ _ _ _ _=>fY λ_ _=>rfl,λ_ _ _ _ _ _=>fY λ_ _=>rfl,λ_ _ _ _ _ _=>fY λ_ _=>rfl,λ_ _ _ _ _ _=>fY λ_ _=>rfl,λ_ _ _ _ _ _=>fY λ_ _=>rfl,λ_ _ _ _ _ _=>by4 λ_ _ _ _=>rfl,λ_ _ _ _ _ _=>RX λ_ _ _ _ _=>rfl,λ_ _ _ _ _ _=>by4 λ_ _ _ _=>rfl,λ_ _ _ _ _ _=>pU λ_ _ _=>rfl,λ_ _ _ _ _ _=>fY λ_ _=>rfl,λ_ _ _ _ _ _=>by4 λ_ _ _ _=>rfl,λ_ _ _ _ _ _=>fY λ_ _=>rfl,λ_ _ _ _ _ _=>by4 λ_ _ _ _=>rfl,λ_ _ _ _ _ _=>fY λ_ _=>rfl,trivial⟩
end Mk
open PySem PySem.W PyProof.Rows Mi
set_option maxRecDepth 100000 in
set_option maxHeartbeats 0 in
theorem PySem.Challenge.cw_likebook_k66_too_many_uses_holds : PySem.Challenge.rw_likebook_k66_too_many_uses.Holds := by
 refine Tp.holds (l:=PySem.Challenge.rw_likebook_k66_too_many_uses) (q:=Mk.vX) (d:=Mk.tV) (K:=Mk.vY) (M:=100000) (N:=200000) Mk.Xl (Tp.vW _ _ Mk.zO) Mk.Xm rfl Mk.Xn (by decide) Mk.Mr Mk.Ms Mk.Xo Mk.Xp Mk.Xq Mk.Xr Mk.Xs ⟨rfl,rfl,rfl,rfl,rfl,by decide+kernel⟩ (by w_witness2) ?_;refine Mk.walk (l:=PySem.Challenge.rw_likebook_k66_too_many_uses) rfl rfl (λw h Y=>Y) ?_;intro w mg fa h KX G Xu;exact Mk.all66 KX G Xu (Jk (λr hr=>(AF Mk.BD w.params).1 r (bz _ hr)) Mk.GI) ((AF Mk.BD w.params).1 Mk.Lr (bg _ (.head _))) (AF Mk.BD w.params).2.1 (AF Mk.BD w.params).2.2.1 ((E1 Mk.kX w.params).2 ("MOST_USES",8) (.head _)) ((E1 Mk.kX w.params).1 _ (.head _)) ((E1 Mk.kX w.params).1 _ (.tail _ (.head _)))
