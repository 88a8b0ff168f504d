import PyProof.Rows.All
import Wide.All
import OpenK.AllK
import PySem.Challenge.RW_likebook_k26_too_many_reasons
open Option renaming some->Z9,none->Z8
open PySem.W renaming Frag->Z5,subIn->Z4
open PySem.PyData renaming strOk->Z3,str->Z2,list->Z1,int->Z0,canLay0->ZZ,canLayAll0->ZY,depthAll->ZX,bool->ZW,eqvAll->ZV
open PySem.Value renaming ref->ZU
open Bool renaming true->Z7,false->Z6
open Lean.Parser.Command in
local macro_rules|`(def $a:declId $b:optDeclSig $c:declVal)=>`(noncomputable def $a:declId $b:optDeclSig $c:declVal)|`(abbrev $a:declId $b:optDeclSig $c:declVal)=>`(noncomputable abbrev $a:declId $b:optDeclSig $c:declVal)
noncomputable section
open Array renaming length_toList->aw,toList_append->bq,getElem?_eq_some_iff->cx,getD_eq_getD_getElem?->eu,getElem?_toList->gy,getD->g8,toList_extract->ig,getElem?_eq_getElem->i8,Perm->ju,size_extract->jw,toList_reverse->j8,perm_iff_toList_perm->ka,getElem?_setIfInBounds->mw,append_assoc->nv,size_append->ot,size_setIfInBounds->oy,toList_inj->pp,getElem?_extract->p9,getElem?_append->qh,toList_push->ui
open Bool renaming and_eq_true->a6,and_eq_true_iff->bj,false_eq_true->cf,false_ne_true->cv,or_eq_true->fz,or_eq_true_iff->gf,not_eq_true'->j4,true_or->ke,or_true->ln,beq_eq_decide_eq->lx,eq_iff_iff->mv,decide_and->qd,and_self->sr,not_true->tf,eq_false_iff->ue
open Int renaming toNat_natCast->im,emod_nonneg->mx,natCast_add->mz,emod_lt_of_pos->n7,lt_irrefl->oz,natCast_nonneg->tx,le_refl->uu
open List renaming length_map->ae,getD_eq_getElem?_getD->am,length_append->ao,getElem?_eq_some_iff->aq,getElem?_eq_getElem->au,mem_append_right->ax,mem_cons->ay,mem_cons_self->a8,getElem?_map->a9,mem_cons_of_mem->ba,all_eq_true->bb,getElem?_set_ne->bh,pairwise_cons->bn,length_cons->bo,map_cons->bp,size_toArray->bw,mem_map->bx,replicate->b8,range->b9,length_set->cg,length_range->ci,mem_of_getElem?->ck,mem_singleton->cq,getElem?_set_self->cu,nodup_cons->cy,mem_iff_getElem?->c8,append_assoc->c9,length_take->df,filterMap_cons->dg,map_append->dh,pairwise_append->dr,getElem?_append_right->dz,take_append_drop->d6,contains_iff_mem->d7,pairwise_iff_getElem->d8,mem_append->d9,lookup_cons->ec,length_replicate->ez,append_nil->e9,all_cons->fg,mem_append_left->fh,getElem?_append_left->fm,take_of_length_le->fu,getElem_mem->f0,getElem?_set->f8,Pairwise->f9,drop_eq_getElem_cons->gb,extract_eq_take_drop->ge,mem_filter->gh,getElem?_replicate->gj,getElem_of_mem->gq,getElem?_eq_none_iff->gu,length_filter_le->gz,length_drop->g7,getElem?_take->g9,pairwise_singleton->ij,pairwise_map->ik,Perm->il,reverse_append->iu,not_mem_nil->iy,countP_cons->iz,mem_of_mem_drop->jd,mem_of_mem_take->je,map_inj_left->jf,filter_eq_self->ji,mem_range->jk,length_eq_zero_iff->jm,take_length->jo,filter_cons_of_pos->jq,filter_cons_of_neg->jr,mem_filterMap->jt,map_map->jx,filter_eq_nil_iff->jy,find?_cons->jz,reverse_reverse->j9,of_mem_zip->kr,foldl_cons->kt,getElem?_drop->kx,length->kz,toArray->lh,drop_eq_nil_of_le->li,reverse_perm->ll,foldl_append->ls,flatMap_cons->lu,length_singleton->lw,pairwise_reverse->ly,getElem?_eq_none->l0,mem_reverse->l6,getElem_map->l7,any_cons->l9,getElem?_append->md,eq_nil_of_length_eq_zero->mj,sum_append->my,nodup_nil->n4,perm_ext_iff_of_nodup->n6,findIdx?_eq_none_iff->n9,take_add_one->oh,ext_getElem?->ol,getElem_take->oo,getElem_drop->oq,filterMap_cons_none->o0,filterMap_cons_some->o5,drop_length->pc,map->pv,take_left'->qe,countP_mono_left->qf,take_take->rc,replicate_succ->rq,getElem?_range->r6,map_congr_left->se,sum_cons->sv,contains_cons->tu,filter_append->tw,take_sublist->t7,reverse_cons->uc,set_set->um,nodup_append->uo
open List.Pairwise renaming imp_of_mem->jh
open List.Perm renaming append_left->qg
open Nat renaming le_refl->ah,lt_of_lt_of_le->b7,le_trans->cc,lt_irrefl->cj,ne_of_lt->cz,zero_add->c0,zero_le->e8,min_eq_left->jb,lt_of_le_of_lt->ky,add_sub_cancel_left->lc,le_of_lt->lg,sub_self->lm,lt_trans->m7,mul_le_mul->n5,le_of_not_lt->o9,one_pos->qz,add_sub_cancel'->ro,lt_or_ge->uj,add_mul->uw
open Option renaming map_eq_some_iff->dq,bind_eq_some_iff->jp,isNone_iff_eq_none->kh
open Prod renaming ext->u5
open PyProof.Rows renaming wpS_pure->az,wpS_bind->a7,seqObj->cr,SortSt->dm,pendingOf->du,wpS_forRange->fy,wpS_mono->gc,kindOf->i7,get?_update_seq->ja,wpS_modify->jv,listUpdate_at->j0,failedOf->j7,wpS_get->lj,seqEpoch_at->me,SortKind->mf,AllBare->m5,listItems_at->m9,setPending->n0,wpS_lift->pj,keyKind'->pq,subscriptTail_builtinR->p5,plain_sorted->p6,entry_sorted->p7,args_sorted1->p8,entry_list_sort->qb,list_sort_plain->qc,envOfC->qo,bubble_perm->qr,kind_sorted->qt,slot_list_sort->qw,args_list_sort->qx,IntsAre->rh,binarySort'->ut,minRun'->uy,bubble->u8,size_push'->u9,gallopOf->va,mergeAt'->vb,setArr->vg
open PySem renaming wpAny_bind->aa,PyData->ag,Shared->ak,wpAny_pure->av,sizeLine->bf,SetTable->bt,Program->bu,mainGlobals->ce,wpAny_holding->dw,bootBuiltins->eh,starEach->eo,compareOp->er,sizeLine_eq->fj,Around->fq,wpAny_truthy_bool->gg,wpAny_mono->gk,foldedSetIterable->gm,PassesOwn->g6,assignEach->io,wpAny_rule->ip,binaryOp->iq,wpAny_Call_Name_kw->i0,NameKind->i3,Params->i5,wpAny_passesOwn->i9,wpAny_newObj_type->jc,wpAny_newList->jg,wpAny_getItem_str_slice->jl,wpAny_loadPart_at->j5,wpAny_execs_cons->kb,wpAny_call_entry->kg,backTo->kj,behindInMarks->km,FuncData->ko,codeAny_builtin->ku,importedModules->kw,wpAny_field->k8,sliceBounds->k9,treeTable->lf,intKind->lq,swapsWith->l5,codeAny->l8,attributeBase->ma,relayAll->mh,unbindBehindTheSuite->mi,Paired->ml,wpAny_execs_nil->mn,letOwnedTupleGo->mq,post_val_or_str->ms,Keyword->m6,wpAny_typeOf->m8,noteFrame->nk,sysModules->nq,ReadsAll->nz,keywordEach->og,unsupported->om,OsState->ou,wpAny_comprehension_free->ox,lastMarks->o7,noFill_tuple_add->o8,codeAny_mono->py,concat_meets->pz,isTrue->qj,wpAny_loadName_local->qk,rawInt->qm,sliceRange_one->qp,wpAny_newTuple->qy,codeAny_call_builtin->q8,wpAny_setField->q9,BindsTo->rf,setFlight->rm,wpAny_isSubtype_exc->sf,swapsWithSole->sg,swappedStores->sj,seq_tuple_add->sk,plainId_quiet->sy,wpAny_Name->tj,assign->tm,IsPart->tq,wpAny_tupleItemsOf->tt,holding->tz,wpAny_assign_Name->t0,backToKw->t5,leaving->t6,valueAt->t8,getItem->t9,seqIndex_neg->ua,slot_list_getitem->ub,callerA->ud,Operator->uf,wpAny_pyIter_list->ug,getAttr?->uh,wpAny_storeSet_of->ul,typeOf->uq,seqIndex_of->ur,standAt->ux,builtinsNs->uz,truthy->u1,wpAny_load->u3,bindArgs->u4,typeIs_str->u6,call_meets->u7,isInstance->vc,layNew->ve,pyIter->vf
open PySem.Builtin.Dict renaming updateFrom->ph
open PySem.Builtin.List renaming listTooLong->kq,listExtendWith->nh
open PySem.Builtin.Slice renaming slicePlaces->i4,sliceAdjust->n8
open PySem.Builtin.Str renaming strSliceIndices->iw
open PySem.Calls renaming call_function_entry->i6,Name_function_global->j6,spliced_cons->ny,loadGlobal_global->o6,evalArgs_plain->qq
open PySem.Heap renaming get?_push_of_some->af,lt_size->bg,get?_push_size->b6,SameBut->gi,get?_update_other->gn,get?_update_self->j3,size_update->pi,get?_none_of_le->qi,NewExcOf->sx
open PySem.Heap.SameBut renaming update->m4
set_option Elab.async false
set_option genInjectivity false
set_option genSizeOf false
set_option compiler.extract_closed false
set_option linter.all false
set_option maxRecDepth 100000
theorem dc {p:Prop} [Decidable p] (h:decide p=true:=by rfl):p:=by simpa using h
theorem vh {c:Prop}{d:Decidable c}(h:c){α:Sort _}{a b:α}:@ite α c d a b=a:=if_pos h
theorem vm {c:Prop}{d:Decidable c}(h:¬c){α:Sort _}{a b:α}:@ite α c d a b=b:=if_neg h
theorem vn {α}{a b:α}(h:Z9 a=Z9 b):a=b:=Option.some.inj h
theorem vo {α β}{a c:α}{b d:β}(h:(a,b)=(c,d)):a=c∧b=d:=Prod.mk.inj h
theorem vp {p:Prop} [Decidable p] (h:decide p=Z7):p:=of_decide_eq_true h
theorem vq {p:Prop} [Decidable p] (h:p):decide p=true:=decide_eq_true h
theorem vr {p:Prop} [Decidable p] (h:¬p):decide p=false:=decide_eq_false h
theorem vt {α} [BEq α] [LawfulBEq α] {a b:α}(h:(a==b)=Z7):a=b:=beq_iff_eq.mp h
abbrev VI (x:PySem.Str):Prop:=(x==("__debug__":PySem.Str))=Z6
namespace Tp
open PySem PySem.W PyProof.Rows
def q0:Pos:=⟨0,0,0,0⟩
def an:Option Value:=Z9 (.ref 6)
def ev (p:bu):Env:={scope:=p.main.scope,locals:=mainNs,globals:=mainNs,cells:=[],code:=.ref 13,frame:=Z9 14}
def cd (p:bu):Code:=.body (behindTheImports p) (ev p)
def grow:List Obj->Nat->BT->BT
 | [],_,t=>t
 |o::l,i,t=>grow l (i+1) (t.ins i o)
def lift (s:ak):SharedT:=⟨grow s.heap.objs.toList 0 .nil,s.heap.objs.size,s.heap.life,s.gens,s.drawn,s.toks,s.os⟩
def pre (p:bu)(H:i5->Heap)(d:Drawn)(k:Nat)(w:World)(os:ou):Option (ak×Thread):=topGo lf p w 11 an 12 ⟨H w.params,#[],d,k,os⟩ (topStub p)
def nW (p:bu)(H:i5->Heap)(d:Drawn)(k:Nat)(w:World)(os:ou):SharedT:=lift (((pre p H d k w os).map Prod.fst).getD ⟨H w.params,#[],d,k,os⟩)
def run (p:bu)(H:i5->Heap)(d:Drawn)(k N:Nat)(w:World)(os:ou):Option (Flow×SharedT×Code×Pos):=segRunT lf p w 11 an 1 N (nW p H d k w os) (piecesOf (behindTheImports p) (ev p) (cd p) q0 [topFrame q0])
def PreEq (p:bu)(H:i5->Heap)(d:Drawn)(k:Nat):Prop:=∀(w:World) (os:ou),((H w.params).isNs ce&&(#[]:Array GenState).size==0,(H w.params).objs.size,(H w.params).nsMap ce "__annotations__",pre p H d k w os,λs c=>segRun lf p w 11 an 1 1 s (blockOf (behindTheImports p) (ev p) c q0 [topFrame q0]))=(Z7,11,an,Z9 ((nW p H d k w os).abs,⟨denote lf (cd p),cd p,q0,[topFrame q0]⟩),λs c=>Z9 (.next,s,c,q0))
def seen (p q:bu)(R:WRecords)(as:List Addr)(H:i5->Heap)(w:World)(s:SharedT):=(staticsOk (kw p.main.body) (H w.params) s.abs.heap&&namesBound p s.abs.heap&&gensDone s.abs&&laidKept (H w.params) s.abs.heap,openSeen q [] (kw p.main.body) (λs=>xlAt q [] s&&recOk R s) Z7 s.abs,as.map s.abs.heap.get?)
def pick {α:Type}(f:SharedT->α):Flow×SharedT×Code×Pos->Option (Code×α)
 |(.next,s,c,_)=>Z9 (c,f s)
 |_=>Z8
def jB (p q:bu)(R:WRecords)(as:List Addr)(K:i5->List (Addr×Obj))(H:i5->Heap)(d:Drawn)(k N:Nat):Prop:=∀(w:World) (os:ou),(run p H d k N w os).bind (pick (seen p q R as H w))=Z9 (cd p,Z7,openGood q [],(K w.params).map λx=>Z9 x.2)
theorem Bc (b:String->Option Builtin)(p:bu)(w:World)(n:Nat)(a:Option Value)(s:ak)(c:Code)(ps q:Pos):topRun b p w n a 2 s ⟨doneF .next,c,ps,[topFrame q]⟩=Z9 s:=by rfl
theorem left {K:i5->List (Addr×Obj)}(o:∀w,(fencedOpening lf p w N).map (fun s=>(s.heap,s.gens,s.drawn,s.toks))=Z9 (boot_heap w.params,#[],boot_drawn,boot_toks))(le:12+(1+(M+2))<=N)
  (h1:PreEq p boot_heap boot_drawn boot_toks) (h2:jB p q R as K boot_heap boot_drawn boot_toks M):LeftO p q [] (λs=>xlAt q [] s&&recOk R s) (λs=>as.map s.heap.get?) (λw=>(K w.params).map λx=>Z9 x.2) N:=λw=>by
 obtain⟨⟨h,gs,d,k,os⟩,e,e'⟩:=dq.mp (o w);have e1:=vo e';have e2:=vo e1.2;have e3:=vo e2.2;obtain rfl:h=boot_heap w.params:=e1.1;obtain rfl:gs=#[]:=e2.1;obtain rfl:d=boot_drawn:=e3.1;obtain rfl:k=boot_toks:=e3.2;have a:=vo (h1 w os);have a2:=vo a.2;have a3:=vo a2.2;have a4:=vo a3.2;obtain⟨⟨f,s,c,ps⟩,r1,r2⟩:=jp.mp (h2 w os);cases f with
 |next=>
  have b:=vo (vn r2);have b1:=vo b.2;have b2:=vo b1.2;obtain rfl:c=cd p:=b.1;have t1:topRun lf p w 11 an (M+2) (nW p boot_heap boot_drawn boot_toks w os).abs (restOf (behindTheImports p++[]) (ev p) (cd p) q0 [topFrame q0])=Z9 s.abs:=piece_app (segRun_of r1) (Bc lf p w 11 an s.abs (cd p) ps q0);rw[e9]at t1;have t4:=topRun_mono (N-(12+(1+(M+2)))) _ _ _ _ (go_top a4.1 (piece_block (congrFun (congrFun a4.2 (nW p boot_heap boot_drawn boot_toks w os).abs) (cd p)) t1));rw[ro le]at t4;have t:topFrom lf p w N ⟨boot_heap w.params,#[],boot_drawn,boot_toks,os⟩=Z9 s.abs:=by unfold topFrom;rw[a.1,a2.1,a3.1,t4];show(match staticsOk (kw p.main.body) (boot_heap w.params) s.abs.heap&&namesBound p s.abs.heap&&gensDone s.abs&&laidKept (boot_heap w.params) s.abs.heap with|true=>Z9 s.abs|false=>Z8)=_;rw[b1.1]
  unfold openEnds;rw[e];show(topFrom lf p w N _).map _=_;rw[t];exact congrArg Z9 (u5 b2.1 b2.2)
 |_=>cases r2
theorem pre_r:PreEq=PreEq:=rfl
def Bd (p q:bu)(R:WRecords)(H:i5->Heap)(w:World)(s:SharedT):=(staticsOk (kw p.main.body) (H w.params) s.abs.heap&&namesBound p s.abs.heap&&gensDone s.abs&&laidKept (H w.params) s.abs.heap,openSeen q [] (kw p.main.body) (λs=>xlAt q [] s&&recOk R s) Z7 s.abs)
def RunA (p q:bu)(R:WRecords)(H:i5->Heap)(d:Drawn)(k N:Nat):Prop:=∀(w:World) (os:ou),(run p H d k N w os).bind (pick (Bd p q R H w))=Z9 (cd p,Z7,openGood q [])
def RunB (p:bu)(as:List Addr)(K:i5->List (Addr×Obj))(H:i5->Heap)(d:Drawn)(k N:Nat):Prop:=∀(w:World) (os:ou),(run p H d k N w os).bind (pick λs=>as.map s.abs.heap.get?)=Z9 (cd p,(K w.params).map λx=>Z9 x.2)
theorem Ls {e h:Type}{f:SharedT->e}{g:SharedT->h}{x:Option (Flow×SharedT×Code×Pos)}{a:e}{b:h}(d:x.bind (pick f)=Z9 (c,a))(j:x.bind (pick g)=Z9 (c,b)):x.bind (pick λs=>(f s,g s))=Z9 (c,a,b):=by
 cases x with
 |none=>cases d
 |some y=>
  obtain⟨fl,s,k,ps⟩:=y;cases fl with
  |next=>have i:=vo (vn d);show Z9 (k,f s,g s)=_;rw[i.1,i.2,(vo (vn j)).2]
  |_=>cases d
theorem rA {K:i5->List (Addr×Obj)}(c:RunA p q R H d k N)(f:RunB p as K H d k N):jB p q R as K H d k N:=λw os=>by
 have h:=Ls (c w os) (f w os);cases e:run p H d k N w os with
 |none=>rw[e]at h;cases h
 |some y=>
  rw[e]at h;obtain⟨fl,s,g,ps⟩:=y;cases fl with
  |next=>have a:=vo (vn h);have b:=vo a.2;show Z9 (g,(Bd p q R H w s).1,(Bd p q R H w s).2,as.map s.abs.heap.get?)=_;rw[a.1,b.2,b.1]
  |_=>cases h
theorem runA_r:RunA=RunA:=rfl
theorem runB_r:RunB=RunB:=rfl
end Tp
lay_quick Tp.PreEq Tp.RunA Tp.RunB
name_quick tpre for Tp.PreEq by Tp.pre_r
name_quick truna for Tp.RunA by Tp.runA_r
name_quick trunb for Tp.RunB by Tp.runB_r
namespace Tp
open PySem PySem.W PyProof.Rows
theorem rn_r:run=run:=rfl
end Tp
name_quick trn for Tp.run by Tp.rn_r
namespace Tp
open PySem PySem.W PyProof.Rows
def obj (p:bu)(M:Nat)(P:i5)(a:Addr):Obj:=((PySem.W.Fast.trn p boot_heap boot_drawn boot_toks M ⟨λ_ _=>0,P⟩ default).map λx=>(x.2.1.tree.get a).getD default).getD default
def Ko (p:bu)(M:Nat)(as:List Addr)(P:i5):Frag:=as.map λa=>(a,obj p M P a)
theorem v7 (p:bu)(M:Nat)(a:List Addr)(P:i5):a=(Ko p M a P).map (·.1):=by unfold Ko;rw[jx];exact(List.map_id _).symm
def said (l:OpenLaw):Bool:=l.wellSaid
theorem said_r:said=said:=rfl
theorem holds {K:i5->Frag}(a:said l=Z7)(b:∀P,as=(K P).map (·.1))(c:opening l.row.prog=plainProg l.row.prog.main.scope.names)(g:Nat.ble 600 N=Z7)(h:∀s,fenceModules? l.row.prog s=Z9 s)(le:12+(1+(M+2))<=N)
  (i:PreEq l.row.prog boot_heap boot_drawn boot_toks) (j:jB l.row.prog q l.row.records as K boot_heap boot_drawn boot_toks M) (a1:defOf q l.row.name=Z9 (d,[])) (a2:l.row.prog.theDef l.row.name=Z9 (d.params,d.body,d.scope)) (a3:kwWritten? d.params.kwonlyargs d.params.kw_defaults=Z9 []) (a4:(!l.row.writes||l.row.records.isEmpty)=Z7)
  (k:(chainsOk q&&opensWell l.row.prog&&(frees l.row.toRowW&&l.row.within.isEmpty))=Z7) (m:l.row.prog.bare) (n:l.row.toRowW.promised) (call:WalkO q [] (XL q []) (InK K) l.row.toRowW d [] λf o=>PySem.call f o):l.Holds:=
 holds_law a λz=>holds_open (left (boot_open c g h) le i j) (InK.of b) InK.keeps (λs e=>xl_of s (bj.mp e).1) XL.keeps a1 a2 a3 (λs e=>recFacts_of (bj.mp e).2) a4 z k m n call
end Tp
lay_quick Tp.said
name_quick tsaid for Tp.said by Tp.said_r
namespace Mk
open PySem PySem.Spec PyProof.Rows
abbrev lE:bu:=PySem.Challenge.rw_likebook_k26_too_many_reasons.row.prog
def v8:bu:=W.view lE [1,2,3,4,5,6,7,8,9,10,11,12,13,15,16,18,19,20,21,22,24,25,26,27,28,30,31,32,33,34,35,36,37,38,39,40,41]
def yY:List Addr:=b9 349
def yZ:i5->Z5:=Tp.Ko lE 100000 yY
theorem Lu:Tp.PreEq lE W.boot_heap W.boot_drawn W.boot_toks:=by
 intro w os
 kernel_rfl
theorem Be:Tp.RunA lE v8 PySem.Challenge.rw_likebook_k26_too_many_reasons.row.records W.boot_heap W.boot_drawn W.boot_toks 100000:=by
 rw[PySem.W.Fast.truna_eq];intro w os
 kernel_rfl
theorem Bf:Tp.RunB lE yY yZ W.boot_heap W.boot_drawn W.boot_toks 100000:=by
 rw[PySem.W.Fast.trunb_eq];intro w os
 kernel_rfl
theorem Lw:Tp.jB lE v8 PySem.Challenge.rw_likebook_k26_too_many_reasons.row.records yY yZ W.boot_heap W.boot_drawn W.boot_toks 100000:=Tp.rA Be Bf
end Mk
namespace L2
open PySem PySem.Spec PyProof.Rows
abbrev Key:=Sum Int Str
def uH:Key->Value->Bool
 |.inl k,v=>Value.isInt k v
 |.inr x,v=>Value.isStrOf x v
def Bg (w:World):Key->Int
 |.inl k=>hashInt k
 |.inr x=>hashStr w x
theorem mW:∀{k:Key} {v:Value},uH k v=Z7->(∃i t,k=Sum.inl i/\v=Value.int i t)\/(∃x t,k=Sum.inr x/\v=Value.str x t)
 |.inl i,v,h=>by obtain⟨t,e⟩:=Value.isInt_shape h;exact .inl ⟨i,t,rfl,e⟩
 |.inr x,v,h=>by obtain⟨t,e⟩:=Value.isStrOf_shape h;exact .inr ⟨x,t,rfl,e⟩
theorem Lx (i:Int)(t:Tok):uH (.inl i) (.int i t)=true:=by simp[uH,Value.isInt]
theorem Ly (x:Str)(t:Tok):uH (.inr x) (.str x t)=true:=by simp[uH,Value.isStrOf]
theorem Lz (a b:Int):decide ((Sum.inl a:Key)=Sum.inl b)=(a==b):=by grind
theorem LA (a b:Str):decide ((Sum.inr a:Key)=Sum.inr b)=decide (a=b):=by grind
theorem LB (a:Int)(b:Str):decide ((Sum.inl a:Key)=Sum.inr b)=false:=vr (λq=>nomatch q)
theorem LC (a:Str)(b:Int):decide ((Sum.inr a:Key)=Sum.inl b)=false:=vr (λq=>nomatch q)
def nB (prog:bu)(w:World):PySem.KeyKind prog w Key where
 is:=uH
 hash:=Bg w
 inj:=λv a b ha hb=>by
  rcases mW ha with⟨i,t,rfl,rfl⟩|⟨x,t,rfl,rfl⟩
  .rcases mW hb with⟨j,u,rfl,e⟩|⟨y,u,rfl,e⟩
   .injection e with e1 _;rw[e1]
   .exact nomatch e
  .rcases mW hb with⟨j,u,rfl,e⟩|⟨y,u,rfl,e⟩
   .exact nomatch e
   .injection e with e1 _;rw[e1]
 byValue:=λk v h=>by rcases mW h with⟨i,t,rfl,rfl⟩|⟨x,t,rfl,rfl⟩<;>rfl
 pyHash:=λhv h=>by
  rcases mW hv with⟨i,t,rfl,rfl⟩|⟨x,t,rfl,rfl⟩
  .exact wpAny_pyHash_int h
  .exact wpAny_pyHash_str h
 eqBool:=λhu hv h=>by
  rcases mW hu with⟨i,t,rfl,rfl⟩|⟨x,t,rfl,rfl⟩
  .rcases mW hv with⟨j,u,rfl,rfl⟩|⟨y,u,rfl,rfl⟩
   .rw[Lz]at h;exact wpAny_eqBool_int h
   .rw[LB]at h;exact SeqAt.EqAt.int_str i t y u _ _ _ _ h
  .rcases mW hv with⟨j,u,rfl,rfl⟩|⟨y,u,rfl,rfl⟩
   .rw[LC]at h;exact SeqAt.EqAt.str_int x t j u _ _ _ _ h
   .rw[LA]at h;exact wpAny_eqBool_str h
 «strs»:=λk x t v h=>by
  rcases mW h with⟨i,u,rfl,e⟩|⟨y,u,rfl,e⟩
  .exact nomatch e
  .injection e with e1 _;subst e1;cases v<;>rfl
theorem LD (prog:bu)(w:World)(i:Int)(t:Tok):(nB prog w).is (.inl i) (.int i t)=true:=Lx i t
theorem LF (prog:bu)(w:World)(x:Str)(t:Tok):(nB prog w).is (.inr x) (.str x t)=true:=Ly x t
inductive V where
 |bU|bl (b:Bool)|int (i:Int)|str (x:Str)|ref (a:Addr)|ty (n:String)
 deriving DecidableEq
def RelV:V->Value->Prop
 |.bU,u=>u=Value.none
 |.bl b,u=>u=Value.bool b
 |.int i,u=>∃t,u=Value.int i t
 |.str x,u=>∃t,u=Value.str x t
 |.ref a,u=>u=ZU a
 |.ty n,u=>u=Value.type n
abbrev Vals:List V->List Value->Prop:=ml RelV
theorem Vals.length (r:Vals xs us):xs.length=us.length:=Paired.length r
theorem Vals.get:∀{a:List V} {b:List Value} {i:Nat} {x:V},Vals a b->a[i]?=Z9 x->∃u,b[i]?=Z9 u/\RelV x u
 |_,_,_,_,.nil,e=>by simp at e
 |_,_,0,_,.cons r _,e=>by simp at e;subst e;exact⟨_,rfl,r⟩
 |_,_,i+1,x,.cons _ t,e=>by obtain⟨u,c,d⟩:=Vals.get t (by simpa using e);exact⟨u,by simpa using c,d⟩
theorem Vals.set (r:RelV x u):∀{a:List V} {b:List Value} i,Vals a b->Vals (a.set i x) (b.set i u)
 |_,_,_,.nil=>.nil
 |_,_,0,.cons _ t=>.cons r t
 |_,_,i+1,.cons q t=>.cons q (Vals.set r i t)
theorem Vals.append:∀{a b:List V} {c ws:List Value},Vals a c->Vals b ws->Vals (a++b) (c++ws)
 |_,_,_,_,.nil,s=>s
 |_,_,_,_,.cons r t,s=>.cons r (Vals.append t s)
theorem Vals.take:∀{xs:List V} {us:List Value} n,Vals xs us->Vals (xs.take n) (us.take n)
 |_,_,0,_=>.nil
 |_,_,_+1,.nil=>.nil
 |_,_,n+1,.cons r t=>.cons r (Vals.take n t)
theorem Vals.drop:∀{xs:List V} {us:List Value} n,Vals xs us->Vals (xs.drop n) (us.drop n)
 |_,_,0,r=>r
 |_,_,_+1,.nil=>.nil
 |_,_,n+1,.cons _ t=>Vals.drop n t
theorem Vals.none_of:∀{xs:List V} {us:List Value} {i:Nat},Vals xs us->xs[i]?=Z8->us[i]?=none:=λ{xs us i} r e=>by have h1:=r.length;have h2:=gu.mp e;exact gu.mpr (by omega)
def eO:Option V->Option Value->Prop
 |some v,Z9 u=>RelV v u
 |none,Z8=>True
 |_,_=>False
def KV {κ:Type}:List (κ×V)->List (κ×Value)->Prop:=ml λ(p:κ×V) (q:κ×Value)=>p.1=q.1/\RelV p.2 q.2
def kV:Key->V
 |.inl i=>.int i
 |.inr x=>.str x
inductive HO where
 |lst (xs:List V)
 |tup (xs:List V)
 |dK (kvs:List (Key×V))
 |own (x:Addr)
 |eP (o:Obj) (u:HO)
 |lF (ps:Array Value)
 |ext (φ:Heap->Prop)
abbrev Hp:=Addr->Option HO
def upd (H:Hp)(a:Addr)(o:HO):Hp:=λb=>if b=a then Z9 o else H b
theorem cK:upd H a o a=Z9 o:=by unfold upd;rw[vh rfl]
theorem aO (h:b≠a):upd H a o b=H b:=by unfold upd;rw[vm h]
theorem eC {H:Hp}(h:H a=Z9 o)(c:H b=Z8):a≠b:=by intro e;subst e;rw[h]at c;cases c
def TupN (h:Heap)(a:Addr)(l:Array Value):Prop:=∃n,h.get? a=Z9 {cls:=.type "tuple",data:=.seq l n}
theorem TupN.tup {h:Heap}{a:Addr}{l:Array Value}(x:TupN h a l):IsTup h a l:=let⟨n,q⟩:=x;⟨_,q,rfl,n,rfl⟩
theorem TupN.new (h:Heap)(l:Array Value):TupN (h.push {cls:=.type "tuple",data:=.seq l}) h.objs.size l:=⟨_,b6 _ rfl⟩
def LG (h:Heap)(a:Addr)(l:Array Value):Prop:=∃o n,h.get? a=Z9 o/\o.cls=.type "tuple"/\o.dict=Z8/\o.data=.seq l n
section
variable (P:bu)(w:World)
def z14 (H:Hp)(h:Heap)(a:Addr):HO->Prop
 |.lst xs=>xs.length<=bf/\∃(its:List Value) (n:Nat),Vals xs its/\h.get? a=Z9 {cls:=.type "list",data:=.seq its.toArray n}
 |.tup xs=>xs.length<=bf/\∃its:List Value,Vals xs its/\TupN h a its.toArray
 |.dK kvs=>kvs.length<=bf/\(a==nq)=Z6/\∃vs,KV kvs vs/\h.DictOf (nB P w) a vs
 |.own _=>∃o,h.get? a=Z9 o
 |.eP o u=>h.get? a=Z9 o/\z14 H h a u
 |.lF ps=>h.get? a=Z9 {cls:=.none,data:=.fields ps}
 |.ext φ=>φ h/\(∃o,h.get? a=Z9 o)/\∀h1 h2:Heap,φ h1->(∀o,h1.get? a=Z9 o->h2.get? a=Z9 o)->φ h2
def HOk (H:Hp)(h:Heap):Prop:=∀a o,H a=Z9 o->z14 P w H h a o
end
section
variable {P:bu}{w:World}{H H':Hp}{h h':Heap}{a:Addr}{o:HO}
theorem z14.lt (x:z14 P w H h a o):a<h.objs.size:=by
 cases o with
 |lst xs=>obtain⟨_,_,_,_,e⟩:=x;exact bg e
 |tup xs=>obtain⟨_,_,_,_,q⟩:=x;exact bg q
 |dK kvs=>obtain⟨_,_,_,_,o,_,_,e,_⟩:=x;exact bg e
 |own y=>obtain⟨_,e⟩:=x;exact bg e
 |eP ob u=>obtain⟨e,_⟩:=x;exact bg e
 |lF ps=>exact bg x
 |ext φ=>obtain⟨_,⟨_,e⟩,_⟩:=x;exact bg e
theorem Paired.wa {e g:Type}{F G:e->g->Prop}:∀{c:List e} {d:List g},ml F c d->(∀a b,F a b->G a b)->ml G c d
 |_,_,.nil,_=>.nil
 |_,_,.cons r t,f=>.cons (f _ _ r) (Paired.wa t f)
theorem z14.stay (x:z14 P w H h a o)(k:∀b u,(b=a\/H b=Z9 (.own a))->h.get? b=Z9 u->h'.get? b=Z9 u)
  (ho:∀b,H b=Z9 (.own a)->H' b=Z9 (.own a)) (ht:∀b xs,H b=Z9 (.tup xs)->H' b=Z9 (.tup xs)):z14 P w H' h' a o:=by
 induction o with
 |lst xs=>obtain⟨z,its,n,r,e⟩:=x;exact⟨z,its,n,r,k _ _ (.inl rfl) e⟩
 |tup xs=>obtain⟨z,l,r,n,q⟩:=x;exact⟨z,l,r,n,k _ _ (.inl rfl) q⟩
 |dK kvs=>obtain⟨z,y,vs,r,ob,es,ep,e,c⟩:=x;exact⟨z,y,vs,r,ob,es,ep,k _ _ (.inl rfl) e,c⟩
 |own y=>obtain⟨ob,e⟩:=x;exact⟨ob,k _ _ (.inl rfl) e⟩
 |eP ob u ih=>obtain⟨e,q⟩:=x;exact⟨k _ _ (.inl rfl) e,ih q⟩
 |lF ps=>have e:h.get? a=Z9 {cls:=.none,data:=.fields ps}:=x;exact k a _ (.inl rfl) e
 |ext φ=>obtain⟨p,⟨o,e⟩,st⟩:=x;exact⟨st _ _ p λo q=>k _ _ (.inl rfl) q,⟨o,k _ _ (.inl rfl) e⟩,st⟩
theorem HOk.lt (x:HOk P w H h)(e:H a=Z9 o):a<h.objs.size:=(x a o e).lt
theorem HOk.fresh (x:HOk P w H h)(e:h.objs.size<=a):H a=none:=by
 cases q:H a with
 |none=>rfl
 |some u=>exact absurd (b7 (x.lt q) e) (cj _)
theorem HOk.kept (x:HOk P w H h)(k:∀b u,h.get? b=Z9 u->h'.get? b=Z9 u):HOk P w H h':=λa o e=>(x a o e).stay (λb u _ q=>k b u q) (λ_ q=>q) λ_ _ q=>q
theorem HOk.laid (x:HOk P w H h)(k:∀b u,h.get? b=Z9 u->h'.get? b=Z9 u)(d:h.objs.size<=a)(new:z14 P w (upd H a o) h' a o):HOk P w (upd H a o) h':=λb u e=>by
 have hn:=x.fresh d;by_cases hb:b=a
 .subst hb;rw[cK]at e;cases e;exact new
 .rw[aO hb]at e;exact(x b u e).stay (λc v _ q=>k c v q) (λc q=>by rw[aO (eC q hn)];exact q) λc f q=>by rw[aO (eC q hn)];exact q
end
def Rd (H:Hp)(a:Addr)(u:HO):Prop:=H a=Z9 u\/∃o,H a=Z9 (.eP o u)
theorem Rd.of (h:H a=Z9 u):Rd H a u:=.inl h
theorem Rd.ok (r:Rd H a u)(x:HOk P w H h):z14 P w H h a u:=by
 rcases r with r|⟨o,r⟩
 .exact x a u r
 .obtain⟨_,q⟩:=x a _ r;exact q
def Mut:Option HO->Prop
 |some (.lst _)=>True
 |some (.dK _)=>True
 |some (.ext _)=>True
 |_=>False
section
variable {P:bu}{w:World}{H:Hp}{h h':Heap}{x e:Addr}{o':HO}
theorem HOk.write (ok:HOk P w H h)(mu:Mut (H x))(i:e=x\/H e=Z9 (.own x))(k:∀b u,b≠e->h.get? b=Z9 u->h'.get? b=Z9 u)(g:∃u,h'.get? e=Z9 u)
  (new:z14 P w (upd H x o') h' x o'):HOk P w (upd H x o') h':=λb u q=>by
 have d:∀c y,H c=Z9 (.own y)->c≠x:=λc y r z=>by subst z;rw[r]at mu;exact mu
 by_cases hb:b=x
 .subst hb;rw[cK]at q;cases q;exact new
 .rw[aO hb]at q;by_cases a:b=e
  .have j:H b=Z9 (.own x):=by
    rcases i with z|z
    .exact absurd (a.trans z) hb
    .rw[a];exact z
   rw[q]at j;cases j;obtain⟨v,m⟩:=g;exact⟨v,by rw[a];exact m⟩
  .refine(ok b u q).stay (λc v f r=>k c v ?_ r) (λc r=>by rw[aO (d c b r)];exact r) λc l r=>by rw[aO ((λc l r z=>by subst z;rw[r]at mu;exact mu) c l r)];exact r
   rcases f with rfl|f
   .exact a
   .rintro rfl
    rcases i with z|z
    .exact d c b f z
    .rw[f]at z;cases z;exact hb rfl
end
structure Un (fs ex:List Addr)(H H':Hp)(h h':Heap):Prop where
 keep:∀b o,h.get? b=Z9 o->H b=Z8->b∉fs->b∉ex->h'.get? b=Z9 o
 slot:∀b o,h.get? b=Z9 o->H b=Z8->b∈fs->b∉ex->∃sl,h'.get? b=Z9 {o with slots:=sl}
 free:∀b o,h.get? b=Z9 o->H b=Z8->b∉ex->H' b=Z8
 there:∀b o,h.get? b=Z9 o->b∉ex->∃o',h'.get? b=Z9 o'
 bV:∀b xs,H b=Z9 (.tup xs)->H' b=Z9 (.tup xs)
 bR:∀b o u,H b=Z9 (.eP o u)->H' b=Z9 (.eP o u)
 bW:∀b ps,H b=Z9 (.lF ps)->∃more,H' b=Z9 (.lF (ps++more))
section
variable {fs Gq ex Gr:List Addr}{H H1 H2:Hp}{h h1 h2 h':Heap}{a x e:Addr}{o:HO}
theorem Un.any (u:Un fs ex H H1 h h1)(q:h.get? b=Z9 ob)(n:H b=Z8)(hx:b∉ex):∃sl,h1.get? b=Z9 {ob with slots:=sl}:=by
 by_cases hb:b∈fs
 .exact u.slot b ob q n hb hx
 .exact⟨ob.slots,u.keep b ob q n hb hx⟩
theorem Un.trans (a:Un fs ex H H1 h h1)(b:Un fs ex H1 H2 h1 h2):Un fs ex H H2 h h2 where
 keep:=λc ob q n hc hx=>b.keep c ob (a.keep c ob q n hc hx) (a.free c ob q n hx) hc hx
 slot:=λc ob q n hc hx=>by obtain⟨sl,e1⟩:=a.slot c ob q n hc hx;obtain⟨LH,e2⟩:=b.slot c _ e1 (a.free c ob q n hx) hc hx;exact⟨LH,e2⟩
 free:=λc ob q n hx=>by obtain⟨o',e1⟩:=a.there c ob q hx;exact b.free c o' e1 (a.free c ob q n hx) hx
 there:=λc ob q hx=>by obtain⟨o',e1⟩:=a.there c ob q hx;exact b.there c o' e1 hx
 bV:=λc xs q=>b.bV c xs (a.bV c xs q)
 bR:=λc ob xs q=>b.bR c ob xs (a.bR c ob xs q)
 bW:=λc ps q=>by obtain⟨m1,e1⟩:=a.bW c ps q;obtain⟨m2,e2⟩:=b.bW c _ e1;exact⟨m1++m2,by rw[e2,nv]⟩
theorem Un.kept (k:∀b u,h.get? b=Z9 u->h'.get? b=Z9 u):Un fs ex H H h h':=⟨λb a q _ _ _=>k b a q,λb a q _ _ _=>⟨a.slots,k b a q⟩,λ_ _ _ n _=>n,λb a q _=>⟨a,k b a q⟩,λ_ _ q=>q,λ_ _ _ q=>q,λ_ ps q=>⟨#[],by rw[q];simp⟩⟩
theorem Un.refl:Un fs ex H H h h:=Un.kept λ_ _ q=>q
theorem Un.laid (k:∀b u,h.get? b=Z9 u->h'.get? b=Z9 u)(c:h.objs.size<=a)(hn:H a=Z8):Un fs ex H (upd H a o) h h' where
 keep:=λb u q _ _ _=>k b u q
 slot:=λb u q _ _ _=>⟨u.slots,k b u q⟩
 free:=λb u q n _=>by rw[aO (cz (b7 (bg q) c))];exact n
 there:=λb u q _=>⟨u,k b u q⟩
 bV:=λb d q=>by rw[aO (eC q hn)];exact q
 bR:=λb u d q=>by rw[aO (eC q hn)];exact q
 bW:=λb ps q=>⟨#[],by rw[aO (eC q hn),q];simp⟩
theorem Un.write (mu:Mut (H x))(d:e=x\/H e=Z9 (.own x))(k:∀b u,b≠e->h.get? b=Z9 u->h'.get? b=Z9 u)(c:∃u,h'.get? e=Z9 u):Un fs ex H (upd H x o) h h':=by
 have hx:∀b,H b=Z8->b≠x:=λb n z=>by subst z;rw[n]at mu;exact mu
 have hb:∀b,H b=Z8->b≠e:=λb n z=>by
  subst z;rcases d with r|r
  .exact hx b n r
  .rw[n]at r;cases r
 have hm:∀b u,H b=Z9 u->¬Mut (Z9 u)->b≠x:=λb u q nm z=>by subst z;rw[q]at mu;exact nm mu
 refine⟨λb u q n _ _=>k b u (hb b n) q,λb u q n _ _=>⟨u.slots,k b u (hb b n) q⟩,λb u q n _=>by rw[aO (hx b n)];exact n,λb u q _=>?_,λb f q=>by rw[aO (hm b _ q λz=>z)];exact q,λb u f q=>by rw[aO (hm b _ q λz=>z)];exact q,λb ps q=>⟨#[],by rw[aO (hm b _ q λz=>z),q];simp⟩⟩;by_cases a:b=e
 .subst a;exact c
 .exact⟨u,k b u a q⟩
theorem Un.mono (u:Un fs ex H H1 h h1)(hs:∀b∈fs,b∈Gq)(hx:∀b∈ex,b∈Gr):Un Gq Gr H H1 h h1:=⟨λb ob q n hb he=>u.keep b ob q n (λz=>hb (hs b z)) λz=>he (hx b z),λ_ _ q n _ he=>u.any q n λz=>he (hx _ z),λb ob q n he=>u.free b ob q n λz=>he (hx b z),λb ob q he=>u.there b ob q λz=>he (hx b z),u.bV,u.bR,u.bW⟩
end
def Bh (h:Heap)(H:Hp):List Addr:=(b9 h.objs.size).filter λa=>(H a).isSome
def jM (h:Heap)(H:Hp):Heap:=W.hideAll h (Bh h H)
theorem LI (h:Heap)(H:Hp):(jM h H).objs.size=h.objs.size:=W.hideAll_size _ _
theorem LJ (e:h.get? b=Z9 o)(n:H b=Z8):(jM h H).get? b=Z9 o:=W.hideAll_get _ e λhm=>by have q:=(gh.mp hm).2;rw[n]at q;simp at q
theorem LK (e:(jM h H).get? b=Z9 o):h.get? b=Z9 o/\H b=none:=by
 have a:=W.of_hideAll (Bh h H) e;refine⟨a,?_⟩;cases q:H b with
 |none=>rfl
 |some x=>have z:(jM h H).get? b=none:=W.hideAll_none (Bh h H) (gh.mpr ⟨jk.mpr (bg a),by simp[q]⟩);rw[z]at e;cases e
def wb (g h:Heap)(L:Addr):List (Addr×Obj):=(b9 h.objs.size).filterMap λa=>if a=L\/(g.get? a).isSome=Z7 then Z8 else(h.get? a).map λo=>(a,o)
theorem Bi (c:a≠L)(d:g.get? a=Z8)(b:h.get? a=Z9 o):(a,o)∈wb g h L:=jt.mpr ⟨a,jk.mpr (bg b),by simp[c,d,b]⟩
theorem LL (a:p∈wb g h L):p.1≠L/\g.get? p.1=Z8/\h.get? p.1=Z9 p.2:=by
 obtain⟨b,_,e⟩:=jt.mp a;split at e
 .cases e
 .rename_i hn;cases q:h.get? b with
  |none=>rw[q]at e;simp at e
  |some u=>
   rw[q]at e;simp at e;subst e;refine⟨λz=>hn (.inl z),?_,q⟩;cases r:g.get? b with
   |none=>rfl
   |some v=>exact(hn (.inr (by simp[r]))).elim
def rest (g h:Heap)(L d:Addr):List (Addr×Obj):=(wb g h L).filter λp=>decide (p.1≠d)
theorem Gs:∀p∈rest g h L d,p.1≠d:=λp a=>vp (gh.mp a).2
theorem LM (b:a≠L)(c:g.get? a=Z8)(e:h.get? a=Z9 o)(f:a≠d):(a,o)∈rest g h L d:=gh.mpr ⟨Bi b c e,vq f⟩
theorem Gu:News g L h (wb g h L):=λp d=>let⟨a,b,c⟩:=LL d;⟨c,a,b⟩
theorem nX (b:d≠L)(c:g.get? d=Z8)(e:h.get? d=Z9 o):News g L h ((d,o)::rest g h L d):=λp a=>by
 rcases ay.mp a with rfl|a
 .exact⟨e,b,c⟩
 .exact Gu p (gh.mp a).1
theorem z7e (k:∀b o,g.get? b=Z9 o->h.get? b=Z9 o)(F:Fr g L a m)(N:News g L a (rest g h L d)):
  ∀b o,b≠L->b≠d->h.get? b=Z9 o->a.get? b=Z9 o:=λb o c f e=>by
 cases q:g.get? b with
 |some u=>have:=k b u q;rw[e]at this;cases this;exact F.keep b _ q
 |none=>exact(N (b,o) (LM c q e f)).1
structure Mod (K:Z5)(mg:Str->Option Value)(base:Heap):Prop where
 uI:K.In base
 glob:base.Ns ce mg
 blt:∃mb,base.Ns uz mb/\∀x:Str,x≠"__name__"->mb x=eh x
 nolimit:base.NoLimit
structure Cx where
 prog:bu
 w:World
 K:Z5
 mg:Str->Option Value
 base:Heap
 A:fq
 N:List Str
 s₀:ak
 fL:Hp
 env:Env
 outer:List Env
 stack:List Env
 ex:List Addr
 fn:Str->Bool
 calm:Bool
 pn:List (Addr×Obj)
 xe:Value->ak->Prop
 fx:Option (Str×Value):=Z8
def frs (l:List Env):List Addr:=l.filterMap (·.frame)
abbrev Cx.fs (X:Cx):List Addr:=frs X.outer
def Vis (sc:Scope)(x:Str):Prop:=sc.names.lookup x=Z9 .local\/sc.names.lookup x=Z9 .cell\/sc.names.lookup x=Z9 .free
def Loc (sc:Scope)(x:Str):Prop:=sc.names.lookup x=Z9 .local\/sc.names.lookup x=Z9 .cell
def Look (env:Env)(h:Heap)(m:Str->Option Value)(x:Str)(u:Value):Prop:=(env.kindOf x=Z9 .local/\m x=Z9 u)\/((env.kindOf x=Z9 .cell\/env.kindOf x=Z9 .free)/\∃c,env.cells.lookup x=Z9 c/\h.IsCell c (Z9 u))
structure Cx.Ok (X:Cx):Prop where
 mod:Mod X.K X.mg X.base
 kind:X.env.scope.kind=.function
 glob:X.env.globals=ce
 blt:X.env.builtins=uz
 above:X.s₀.heap.objs.size<=X.env.locals
 inj:∀x y c,X.env.cells.lookup x=Z9 c->X.env.cells.lookup y=Z9 c->x=y
 has:∀x,(X.env.kindOf x=Z9 .cell\/X.env.kindOf x=Z9 .free)->∃c,X.env.cells.lookup x=Z9 c
 pY:∀x c,X.fn x=Z7->X.env.cells.lookup x=Z9 c->X.s₀.heap.objs.size<=c
 hd:X.calm=Z7->X.A.handled=Z8
 frames:X.A.frames=Z9 X.stack
 rC:X.stack=X.outer\/(X.stack=X.env::X.outer/\X.env.frame=Z9 X.env.locals)
 rD:∀b∈X.ex,b≠X.env.locals/\∀x c,X.env.cells.lookup x=Z9 c->c≠b
 bs:∀b o,X.base.get? b=Z9 o->X.s₀.heap.get? b=Z9 o/\X.fL b=Z8
 iL:X.base.objs.size<=X.s₀.heap.objs.size
 gT:∀b o,X.base.get? b=Z9 o->b∉X.ex
 gU:∀b∈X.ex,b∉X.fs
 cN:X.s₀.heap.FunFrames X.base X.outer
 nD:∀b∈X.fs,X.fL b=Z8
 y2:∀x u,X.fx=Z9 (x,u)->x∉X.N/\X.env.scope.names.lookup x=Z9 .local
structure Inv (X:Cx)(pins:List (Addr×Obj))(σ:List (Option V))(H:Hp)(s:ak):Prop where
 ok:X.Ok
 os:s.os=X.s₀.os
 bare:m5 s.gens
 base:Un X.fs X.ex X.fL H X.s₀.heap s.heap
 loc:∃m,s.heap.Ns X.env.locals m/\∀(i:Nat) (x:Str) (v:V),X.N[i]?=Z9 x->σ[i]?=Z9 (Z9 v)->Vis X.env.scope x->∃u,RelV v u/\Look X.env s.heap m x u
 cell:∀x c,X.env.cells.lookup x=Z9 c->∃v,s.heap.IsCell c v
 free:H X.env.locals=Z8
 bE:∀x c,X.env.cells.lookup x=Z9 c->H c=Z8
 pin:∀p∈X.pn++pins,s.heap.get? p.1=Z9 p.2/\H p.1=Z8/\p.1≠X.env.locals/\p.1∉X.fs/\∀v,p.2.data≠.cell v
 hok:HOk X.prog X.w H s.heap
 len:σ.length=X.N.length
 fx:∀x u,X.fx=Z9 (x,u)->∃m,s.heap.Ns X.env.locals m/\m x=Z9 u
section
variable {X:Cx}{pins:List (Addr×Obj)}{σ:List (Option V)}{H H':Hp}{s:ak}{h':Heap}
theorem Cx.Ok.wc (ok:X.Ok)(e:X.base.get? b=Z9 o):b∉X.fs:=λhb=>by have:=(ok.cN.mem hb).1;rw[e]at this;cases this
theorem Inv.bs (I:Inv X pins σ H s):∀b o,X.base.get? b=Z9 o->s.heap.get? b=Z9 o/\H b=none:=λb o e=>⟨I.base.keep b o (I.ok.bs b o e).1 (I.ok.bs b o e).2 (I.ok.wc e) (I.ok.gT b o e),I.base.free b o (I.ok.bs b o e).1 (I.ok.bs b o e).2 (I.ok.gT b o e)⟩
theorem Inv.bk (I:Inv X pins σ H s):∀b o,X.base.get? b=Z9 o->s.heap.get? b=Z9 o:=λb o e=>(I.bs b o e).1
theorem Inv.mod (I:Inv X pins σ H s):Mod X.K X.mg X.base:=I.ok.mod
theorem Inv.eY (I:Inv X pins σ H s):X.K.In s.heap:=I.ok.mod.uI.keeps I.bk
theorem Inv.nolimit (I:Inv X pins σ H s):s.heap.NoLimit:=I.ok.mod.nolimit.keeps I.bk
theorem Inv.fr (I:Inv X pins σ H s):∃m,Fr X.base X.env.locals s.heap m:=
 let⟨m,hn,_⟩:=I.loc
 ⟨m,hn,I.bk,cc I.ok.iL I.ok.above⟩
theorem Inv.lt (I:Inv X pins σ H s):X.env.locals<s.heap.objs.size:=let⟨_,hn,_⟩:=I.loc;hn.lt
theorem Inv.sz (I:Inv X pins σ H s):X.s₀.heap.objs.size<=s.heap.objs.size:=cc I.ok.above (lg I.lt)
theorem Inv.wd (I:Inv X pins σ H s)(h:s.heap.objs.size<=a):a∉X.fs:=λhb=>by obtain⟨_,o,ho,_⟩:=I.ok.cN.mem hb;exact absurd (b7 (bg ho) (cc I.sz h)) (cj _)
theorem Inv.kO (I:Inv X pins σ H s):∀x c,X.env.cells.lookup x=Z9 c->c≠X.env.locals:=λx c e z=>by obtain⟨v,o,ho,hd⟩:=I.cell x c e;obtain⟨m,⟨d,es,ep,a,b,_⟩,_⟩:=I.loc;rw[z,a]at ho;cases ho;rw[b]at hd;cases hd
theorem Inv.cN (I:Inv X pins σ H s):s.heap.FunFrames X.base X.outer:=by
 have all:∀l,(∀b∈frs l,b∈X.fs)->X.s₀.heap.FunFrames X.base l->s.heap.FunFrames X.base l:=by
  intro l
  induction l with
  |nil=>intro _ _;trivial
  |cons env r c=>
   rintro hs ⟨hk,⟨L,o,hf,hn,ho,hd⟩,hr⟩
   have a:=hs L (by unfold frs;rw[dg,hf];exact a8);obtain⟨sl,e⟩:=I.base.slot L o ho (I.ok.nD L a) a λz=>I.ok.gU L z a;exact⟨hk,⟨L,_,hf,hn,e,hd⟩,c (λb hb=>hs b (by unfold frs;rw[dg,hf];exact ba _ hb)) hr⟩
 exact all X.outer (λ_ hb=>hb) I.ok.cN
theorem Inv.stack (I:Inv X pins σ H s):s.heap.FunFrames X.base X.stack:=by
 rcases I.ok.rC with e|⟨e,hf⟩
 .rw[e];exact I.cN
 .rw[e];obtain⟨m,hn,_⟩:=I.loc;refine .cons (by rw[I.ok.kind];decide) hf hn ?_ I.cN;exact qi (cc I.ok.iL I.ok.above)
theorem Inv.fM (I:Inv X pins σ H s):∀b∈frs X.stack,b∈X.env.locals::X.fs:=λb hb=>by
 rcases I.ok.rC with e|⟨e,hf⟩
 .rw[e]at hb;simp_all
 .rw[e]at hb;unfold frs at hb;rw[dg,hf]at hb;exact hb
theorem Inv.fN (I:Inv X pins σ H s):∀b∈frs X.stack,H b=none:=λb hb=>by
 rcases ay.mp (I.fM b hb)with e|hb
 .rw[e];exact I.free
 .obtain⟨_,o,ho,_⟩:=I.ok.cN.mem hb;exact I.base.free b o ho (I.ok.nD b hb) λz=>I.ok.gU b z hb
theorem Inv.step {ch:List Addr}(I:Inv X pins σ H s)
  (a:∀b∈ch,(b∈X.ex\/X.s₀.heap.objs.size<=b)/\b≠X.env.locals/\(∀x c,X.env.cells.lookup x=Z9 c->c≠b)/\∀p∈X.pn++pins,p.1≠b)
  (keep:∀b o,b≠X.env.locals->b∉X.fs->b∉ch->s.heap.get? b=Z9 o->H b=Z8->h'.get? b=Z9 o)
  (slot:∀b o,b≠X.env.locals->b∈X.fs->b∉ch->s.heap.get? b=Z9 o->H b=Z8->∃sl,h'.get? b=Z9 {o with slots:=sl}) (free:∀b o,b∉ch->s.heap.get? b=Z9 o->H b=Z8->H' b=Z8)
  (there:∀b o,b∉ch->s.heap.get? b=Z9 o->∃y,h'.get? b=Z9 y)
  (bV:∀b t,H b=Z9 (.tup t)->H' b=Z9 (.tup t)) (bR:∀b o u,H b=Z9 (.eP o u)->H' b=Z9 (.eP o u)) (bW:∀b ps,H b=Z9 (.lF ps)->∃A,H' b=Z9 (.lF (ps++A)))
  (ns:∀m,s.heap.Ns X.env.locals m->h'.Ns X.env.locals m) (hok:HOk X.prog X.w H' h') (J:m5 g'):
  Inv X pins σ H' {s with heap:=h',gens:=g',drawn:=d',toks:=t'}:=by
 have B:∀b o,X.s₀.heap.get? b=Z9 o->b≠X.env.locals:=λb o e=>cz (b7 (bg e) I.ok.above)
 have h:∀b o,X.s₀.heap.get? b=Z9 o->b∉X.ex->b∉ch:=λb o e hx hb=>by
  rcases(a b hb).1 with z|z
  .exact hx z
  .exact absurd (b7 (bg e) z) (cj _)
 have f:∀x c,X.env.cells.lookup x=Z9 c->∀v,s.heap.IsCell c v->h'.IsCell c v:=λx c e v ⟨o,ho,hd⟩=>by
  have g:=λz=>(a c z).2.2.1 x c e rfl;by_cases E:c∈X.fs
  .obtain⟨sl,q⟩:=slot c o (I.kO x c e) E g ho (I.bE x c e);exact⟨_,q,hd⟩
  .exact⟨o,keep c o (I.kO x c e) E g ho (I.bE x c e),hd⟩
 refine⟨I.ok,I.os,J,⟨λb o e n hb hx=>?_,λb o e n hb hx=>?_,λb o e n hx=>?_,λb o e hx=>?_,λb t e=>bV b t (I.base.bV b t e),λb o t e=>bR b o t (I.base.bR b o t e),λb ps e=>?_⟩,?_,λx c e=>?_,?_,λx c e=>?_,λp F=>?_,hok,I.len,λx u e=>let⟨m,hn,q⟩:=I.fx x u e;⟨m,ns m hn,q⟩⟩
 .exact keep b o (B b o e) hb (h b o e hx) (I.base.keep b o e n hb hx) (I.base.free b o e n hx)
 .obtain⟨sl,j⟩:=I.base.slot b o e n hb hx;obtain⟨D,C⟩:=slot b _ (B b o e) hb (h b o e hx) j (I.base.free b o e n hx);exact⟨D,C⟩
 .obtain⟨y,j⟩:=I.base.there b o e hx;exact free b y (h b o e hx) j (I.base.free b o e n hx)
 .obtain⟨y,j⟩:=I.base.there b o e hx;exact there b y (h b o e hx) j
 .obtain⟨K,j⟩:=I.base.bW b ps e;obtain⟨L,C⟩:=bW b _ j;exact⟨K++L,by rw[C,nv]⟩
 .obtain⟨m,hn,hl⟩:=I.loc;refine⟨m,ns m hn,λi x v j C M=>?_⟩;obtain⟨u,r,l⟩:=hl i x v j C M;refine⟨u,r,?_⟩;rcases l with l|⟨k,c,e,z⟩
  .exact .inl l
  .exact .inr ⟨k,c,e,f x c e _ z⟩
 .obtain⟨v,z⟩:=I.cell x c e;exact⟨v,f x c e v z⟩
 .obtain⟨m,⟨o,_,_,ho,_⟩,_⟩:=I.loc;exact free _ o (λz=>(a _ z).2.1 rfl) ho I.free
 .obtain⟨v,o,ho,hd⟩:=I.cell x c e;exact free c o (λz=>(a c z).2.2.1 x c e rfl) ho (I.bE x c e)
 .obtain⟨e,n,ne,G,d⟩:=I.pin p F;have g:=λz=>(a p.1 z).2.2.2 p F rfl;exact⟨keep p.1 p.2 ne G g e n,free p.1 p.2 g e n,ne,G,d⟩
theorem Inv.un (I:Inv X pins σ H s)(u:Un X.fs [] H H' s.heap h')(hok:HOk X.prog X.w H' h'):Inv X pins σ H' {s with heap:=h',toks:=t'}:=by obtain⟨m,⟨o,es,ep,ho,r⟩,_⟩:=id I.loc;obtain⟨sl,f⟩:=u.any ho I.free (by simp);exact I.step (ch:=[]) (λ_ z=>nomatch z) (λb o _ hb _ e n=>u.keep b o e n hb (by simp)) (λb o _ hb _ e n=>u.slot b o e n hb (by simp)) (λb o _ e n=>u.free b o e n (by simp)) (λb o _ e=>u.there b o e (by simp)) u.bV u.bR u.bW (λh ⟨i,c,d,a,g⟩=>by rw[ho]at a;cases a;exact⟨_,c,d,f,g⟩) hok I.bare
theorem Inv.call (I:Inv X pins σ H s)(u:Un (frs X.stack) ch H H' s.heap h')(hok:HOk X.prog X.w H' h')(j:m5 k)
  (d:∀b∈ch,(b∈X.ex\/X.s₀.heap.objs.size<=b)/\b≠X.env.locals/\(∀x c,X.env.cells.lookup x=Z9 c->c≠b)/\∀p∈X.pn++pins,p.1≠b):
  Inv X pins σ H' {s with heap:=h',gens:=k,drawn:=d',toks:=t'}:=by
 obtain⟨m,⟨o,es,ep,ho,r⟩,_⟩:=id I.loc;obtain⟨sl,g⟩:=u.any ho I.free λz=>(d _ z).2.1 rfl;exact I.step d (λb o g hb a e n=>u.keep b o e n (λz=>(ay.mp (I.fM b z)).elim g hb) a) (λb o _ _ a e n=>u.any e n a) (λb o a e n=>u.free b o e n a) (λb o a e=>u.there b o e a) u.bV u.bR u.bW (λq ⟨t,h,i,f,l⟩=>by rw[ho]at f;cases f;exact⟨_,h,i,g,l⟩) hok j
theorem Inv.turned (I:Inv X pins σ H s)(k:∀b o,b≠a->s.heap.get? b=Z9 o->h'.get? b=Z9 o)(hn:H a=Z8)(g:a≠X.env.locals)
  (h:a∈X.ex\/X.s₀.heap.objs.size<=a) (i:∀x c,X.env.cells.lookup x=Z9 c->c≠a) (j:∀p∈X.pn++pins,p.1≠a):Inv X pins σ H {s with heap:=h',toks:=t'}:=by
 have f:∀b u,H b=Z9 u->b≠a:=λb u e z=>by rw[z,hn]at e;cases e
 refine I.step (ch:=[a]) (λb hb=>?_) (λb o _ _ d e _=>k b o (λz=>d (by simp[z])) e) (λb o _ _ d e _=>⟨o.slots,k b o (λz=>d (by simp[z])) e⟩) (λ_ _ _ _ n=>n) (λb o d e=>⟨o,k b o (λz=>d (by simp[z])) e⟩) (λ_ _ e=>e) (λ_ _ _ e=>e) (λb ps e=>⟨#[],by rw[e];simp⟩) (λm hm=>?_) (λb u e=>?_) I.bare
 .have e:b=a:=by simpa using hb
  subst e;exact⟨h,g,i,j⟩
 .obtain⟨o,es,ep,ho,r⟩:=hm;exact⟨o,es,ep,k _ o (Ne.symm g) ho,r⟩
 .refine(I.hok b u e).stay (λc v d q=>k c v ?_ q) (λ_ q=>q) λ_ _ q=>q;rcases d with z|z
  .rw[z];exact f b u e
  .exact f c _ z
theorem Inv.tok (I:Inv X pins σ H s)(t:Nat):Inv X pins σ H {s with toks:=t}:=I.un (h':=s.heap) (t':=t) Un.refl I.hok
theorem Inv.kept (I:Inv X pins σ H s)(k:∀b u,s.heap.get? b=Z9 u->h'.get? b=Z9 u):Inv X pins σ H {s with heap:=h',toks:=t'}:=I.un (Un.kept k) (I.hok.kept k)
theorem Inv.laid (I:Inv X pins σ H s)(k:∀b u,s.heap.get? b=Z9 u->h'.get? b=Z9 u)(c:s.heap.objs.size<=a)(new:z14 X.prog X.w (upd H a o) h' a o): Inv X pins σ (upd H a o) {s with heap:=h',toks:=t'}:=I.un (Un.laid k c (I.hok.fresh c)) (I.hok.laid k c new)
theorem Inv.write (I:Inv X pins σ H s)(mu:Mut (H x))(c:e=x\/H e=Z9 (.own x))(k:∀b u,b≠e->s.heap.get? b=Z9 u->h'.get? b=Z9 u)(a:∃u,h'.get? e=Z9 u) (new:z14 X.prog X.w (upd H x o) h' x o):Inv X pins σ (upd H x o) {s with heap:=h',toks:=t'}:=I.un (Un.write mu c k a) (I.hok.write mu c k a new)
theorem Inv.weak (I:Inv X pins σ H s)(hl:a.length=σ.length)(w:∀(i:Nat) v,a[i]?=Z9 (Z9 v)->σ[i]?=Z9 (Z9 v)):Inv X pins a H s:=⟨I.ok,I.os,I.bare,I.base,let⟨m,hn,Bj⟩:=I.loc;⟨m,hn,λi x v b c d=>Bj i x v b (w i v c) d⟩,I.cell,I.free,I.bE,I.pin,I.hok,hl.trans I.len,I.fx⟩
theorem Inv.eJ (I:Inv X pins σ H s)(h:∀p∈we,s.heap.get? p.1=Z9 p.2/\H p.1=Z8/\p.1≠X.env.locals/\p.1∉X.fs/\∀v,p.2.data≠.cell v):Inv X we σ H s:=⟨I.ok,I.os,I.bare,I.base,I.loc,I.cell,I.free,I.bE,λp a=>(d9.mp a).elim (λz=>I.pin p (fh _ z)) (h p),I.hok,I.len,I.fx⟩
theorem LN {h:Heap}(x:h.Ns a m)(y:h.Ns a g)(n:Str):m n=g n:=by obtain⟨o,es,ep,e,d,_,f⟩:=x;obtain⟨l,i,j,b,c,_,k⟩:=y;rw[e]at b;cases b;rw[d]at c;cases c;rw[<-f n,k n]
theorem wg {N:List Str}(hN:N.Nodup){j:Nat}(a:N[i]?=Z9 x)(b:N[j]?=Z9 x):i=j:=by obtain⟨e,c⟩:=aq.mp a;obtain⟨f,d⟩:=aq.mp b;exact(List.getElem_inj hN).mp (c.trans d.symm)
theorem z43 (I:Inv X pins σ H s)(hN:X.N.Nodup)(hi:X.N[i]?=Z9 x)(hx:Loc X.env.scope x)(r:RelV v u)
  (h:∀s',Inv X pins (σ.set i (Z9 v)) H s'->(∃a,gi a s.heap s'.heap/\(a=X.env.locals\/X.env.cells.lookup x=Z9 a))->Q () s') (hf:X.fn x=Z7\/X.env.scope.names.lookup x=Z9 .local:=by first|exact .inl rfl|exact .inr rfl|assumption):wpAny M A (storeName X.env x u) Q E s:=by
 obtain⟨m,hn,hl⟩:=id I.loc;have Bl:(X.env.scope.kind==.class||(X.env.scope.kind==.module&&X.env.locals != X.env.globals))=false:=by rw[I.ok.kind];rfl
 have wj:i<σ.length:=by rw[I.len];exact(aq.mp hi).1
 have kO:=I.kO
 have tracked:∀{a:Addr} {h':Heap},(∃o,s.heap.get? a=Z9 o/\H a=Z8)->gi a s.heap h'->HOk X.prog X.w H h':=λ{a h'} ha hs b ob e=>by
  obtain⟨_,_,pZ⟩:=ha;refine(I.hok b ob e).stay (λc w' hc q=>(hs.2 c ?_).trans q) (λ_ q=>q) λ_ _ q=>q
  rintro rfl
  rcases hc with rfl|hc
  .rw[pZ]at e;cases e
  .rw[pZ]at hc;cases hc
 rcases hx with hk|hk
 .refine wpAny_storeName_local hk hn (λh' Bm hs=>?_) Bl;obtain⟨oL,_,_,qA,_⟩:=id hn;refine h _ ⟨I.ok,I.os,I.bare,⟨λb o e n hb hx=>?_,λb o e n hb hx=>?_,I.base.free,λb o e hx=>?_,I.base.bV,I.base.bR,I.base.bW⟩,⟨_,Bm,λj y v' e1 e2 e3=>?_⟩,λy c e=>?_,I.free,I.bE,λp hp=>?_,tracked ⟨oL,qA,I.free⟩ hs,by simpa using I.len,λy u e=>by obtain⟨m',hn2,q⟩:=I.fx y u e;refine⟨_,Bm,?_⟩;have hy:y≠x:=λz=>(I.ok.y2 y u e).1 (z▸ck hi);have:=LN hn hn2 y;simp[hy,this,q]⟩ ⟨_,hs,.inl rfl⟩
  .exact(hs.2 b (cz (b7 (bg e) I.ok.above))).trans (I.base.keep b o e n hb hx)
  .obtain⟨sl,e1⟩:=I.base.slot b o e n hb hx;exact⟨sl,(hs.2 b (cz (b7 (bg e) I.ok.above))).trans e1⟩
  .obtain⟨o',e1⟩:=I.base.there b o e hx;exact⟨o',(hs.2 b (cz (b7 (bg e) I.ok.above))).trans e1⟩
  .by_cases hj:j=i
   .subst hj;rw[hi]at e1;cases e1;rw[cu wj]at e2;cases e2;exact⟨u,r,.inl ⟨hk,by simp⟩⟩
   .rw[bh (Ne.symm hj)]at e2;obtain⟨u',r',q⟩:=hl j y v' e1 e2 e3;refine⟨u',r',?_⟩;rcases q with⟨k,e⟩|⟨k,c,e,z⟩
    .refine .inl ⟨k,?_⟩;have:y≠x:=λe=>hj (wg hN e1 (e▸hi));simp[this,e]
    .exact .inr ⟨k,c,e,z.sameBut hs (kO y c e)⟩
  .obtain⟨w',z⟩:=I.cell y c e;exact⟨w',z.sameBut hs (kO y c e)⟩
  .obtain⟨e,n,ne,nf,d⟩:=I.pin p hp;exact⟨(hs.2 p.1 ne).trans e,n,ne,nf,d⟩
 .have hfn:X.fn x=true:=by
   rcases hf with z|z
   .exact z
   .rw[z]at hk;cases hk
  obtain⟨c,hc⟩:=I.ok.has x (.inl hk);obtain⟨w',z⟩:=I.cell x c hc;refine wpAny_storeName_cell I.ok.kind hk hc z (λh' y3 hs=>?_);obtain⟨oc,qB,nY⟩:=id z;refine h {s with heap:=h'} ⟨I.ok,I.os,I.bare,⟨λb o e n hb hx=>?_,λb o e n hb hx=>?_,I.base.free,λb o e hx=>?_,I.base.bV,I.base.bR,I.base.bW⟩,⟨m,hn.sameBut hs (Ne.symm (kO x c hc)),λj y v' e1 e2 e3=>?_⟩,λy c' e=>?_,I.free,I.bE,λp hp=>?_,tracked ⟨oc,qB,I.bE x c hc⟩ hs,by simpa using I.len,λy u e=>let⟨m',hn2,q⟩:=I.fx y u e;⟨m',hn2.sameBut hs (Ne.symm (kO x c hc)),q⟩⟩ ⟨c,hs,.inr hc⟩
  .exact(hs.2 b (cz (b7 (bg e) (I.ok.pY x c hfn hc)))).trans (I.base.keep b o e n hb hx)
  .obtain⟨sl,e1⟩:=I.base.slot b o e n hb hx;exact⟨sl,(hs.2 b (cz (b7 (bg e) (I.ok.pY x c hfn hc)))).trans e1⟩
  .obtain⟨o',e1⟩:=I.base.there b o e hx;exact⟨o',(hs.2 b (cz (b7 (bg e) (I.ok.pY x c hfn hc)))).trans e1⟩
  .by_cases hj:j=i
   .subst hj;rw[hi]at e1;cases e1;rw[cu wj]at e2;cases e2;exact⟨u,r,.inr ⟨.inl hk,c,hc,y3⟩⟩
   .rw[bh (Ne.symm hj)]at e2;obtain⟨u',r',q⟩:=hl j y v' e1 e2 e3;refine⟨u',r',?_⟩;rcases q with q|⟨k,c',e,z'⟩
    .exact .inl q
    .refine .inr ⟨k,c',e,z'.sameBut hs ?_⟩
     rintro rfl
     exact hj (wg hN e1 (I.ok.inj _ _ _ e hc▸hi))
  .by_cases Gv:c'=c
   .subst Gv;exact⟨_,y3⟩
   .obtain⟨w2,z2⟩:=I.cell y c' e;exact⟨w2,z2.sameBut hs Gv⟩
  .obtain⟨e,n,ne,nf,d⟩:=I.pin p hp;refine⟨(hs.2 p.1 ?_).trans e,n,ne,nf,d⟩;intro q;rw[q,qB]at e;have q':=vn e;exact d w' (by rw[<-q'];exact nY)
theorem z6e (I:Inv X pins σ H s)(hN:X.N.Nodup)(hi:X.N[i]?=Z9 x)(hx:Loc X.env.scope x)(r:RelV v u)
  (h:∀s',Inv X pins (σ.set i (Z9 v)) H s'->Q () s') (hf:X.fn x=Z7\/X.env.scope.names.lookup x=Z9 .local:=by first|exact .inl rfl|exact .inr rfl|assumption):wpAny M A (storeName X.env x u) Q E s:=
 z43 I hN hi hx r (λs' I' _=>h s' I') hf
theorem Inv.call' (I:Inv X pins σ H s)(ho:a.os=s.os)(u:Un (frs X.stack) e H H' s.heap a.heap)(hok:HOk X.prog X.w H' a.heap)(f:m5 a.gens)
  (d:∀b∈e,(b∈X.ex\/X.s₀.heap.objs.size<=b)/\b≠X.env.locals/\(∀x c,X.env.cells.lookup x=Z9 c->c≠b)/\∀p∈X.pn++pins,p.1≠b):Inv X pins σ H' a:=by
 obtain⟨h',g,h,i,j⟩:=a;subst ho;exact I.call u hok f d
end
abbrev XK:=Value->Option Addr->Hp->Prop
abbrev St:=List (Option V)
abbrev VK:=V->Hp->Prop
abbrev TE:=St->Hp->VK->Prop
abbrev TT:=St->Hp->(Bool->Hp->Prop)->Prop
abbrev TA:=St->Hp->(List V->Hp->Prop)->Prop
structure Ends where
 nx:St->Hp->Prop
 rt:VK
 bk:St->Hp->Prop:=λ_ _=>False
 ct:St->Hp->Prop:=λ_ _=>False
abbrev TS:=Ends->St->Hp->Prop
def EP (X:Cx)(pins:List (Addr×Obj))(σ:St)(Q:VK)(u:Value)(s':ak):Prop:=∃v H',Inv X pins σ H' s'/\RelV v u/\Q v H'
def TP (X:Cx)(pins:List (Addr×Obj))(σ:St)(Q:Bool->Hp->Prop)(b:Bool)(s':ak):Prop:=∃H',Inv X pins σ H' s'/\Q b H'
def AP (X:Cx)(pins:List (Addr×Obj))(σ:St)(Q:List V->Hp->Prop)(us:List Value)(s':ak):Prop:=∃vs H',Inv X pins σ H' s'/\Vals vs us/\Q vs H'
def SP (X:Cx)(pins:List (Addr×Obj))(D:Ends)(f:Flow)(s':ak):Prop:=
 match f with
 |.next=>∃σ' H',Inv X pins σ' H' s'/\D.nx σ' H'
 |.brk=>∃σ' H',Inv X pins σ' H' s'/\D.bk σ' H'
 |.cont=>∃σ' H',Inv X pins σ' H' s'/\D.ct σ' H'
 |.ret u=>∃v σ' H',Inv X pins σ' H' s'/\RelV v u/\D.rt v H'
def PE (X:Cx)(e:Expr)(t:TE):Prop:=∀(pins:List (Addr×Obj)) (s:ak) (σ:St) (H:Hp) (Q:VK),Inv X pins σ H s->t σ H Q->wpAny (model X.prog X.w) X.A (eval e X.env) (EP X pins σ Q) X.xe s
def PT (X:Cx)(e:Expr)(t:TT):Prop:=∀(pins:List (Addr×Obj)) (s:ak) (σ:St) (H:Hp) (Q:Bool->Hp->Prop),Inv X pins σ H s->t σ H Q->wpAny (model X.prog X.w) X.A (qj e X.env (eval e X.env)) (TP X pins σ Q) X.xe s
def PW (X:Cx)(e:Expr)(t:TT):Prop:=∀(whole:Sem Value) (pins:List (Addr×Obj)) (s:ak) (σ:St) (H:Hp) (Q:Bool->Hp->Prop),Inv X pins σ H s->t σ H Q->wpAny (model X.prog X.w) X.A (qj e X.env whole) (TP X pins σ Q) X.xe s
theorem PW.pt (h:PW X e t):PT X e t:=h _
def PA (X:Cx)(es:List Expr)(t:TA):Prop:=∀(pos:Pos) (pins:List (Addr×Obj)) (s:ak) (σ:St) (H:Hp) (Q:List V->Hp->Prop),Inv X pins σ H s->t σ H Q->wpAny (model X.prog X.w) X.A (spliced (kj pos (eo es X.env))) (AP X pins σ Q) X.xe s
def PS (X:Cx)(st:Stmt)(t:TS):Prop:=∀(pins:List (Addr×Obj)) (s:ak) (σ:St) (H:Hp) (D:Ends),Inv X pins σ H s->t D σ H->wpAny (model X.prog X.w) X.A (exec st X.env) (SP X pins D) X.xe s
def PSs (X:Cx)(st:List Stmt)(t:TS):Prop:=∀(pins:List (Addr×Obj)) (s:ak) (σ:St) (H:Hp) (D:Ends),Inv X pins σ H s->t D σ H->wpAny (model X.prog X.w) X.A (execs st X.env) (SP X pins D) X.xe s
theorem aI (h:wpAny M A t Q E s)(b:∀a s,Q a s->c a s):wpAny M A t c E s:=gk h b λ_ _ x=>x
section
variable {X:Cx}
theorem bin (ha:PE X a m)(hb:PE X b n){R:V->V->Hp->Prop}(I:Inv X c e H s)(h:m e H fun x k=>n e k fun y d=>R x y d)
  {l:Type} {Q:l->ak->Prop} {f:Value->Value->Sem l}
  (hf:∀v u j x y d,Inv X c e d j->RelV x v->RelV y u->R x y d->wpAny (model X.prog X.w) X.A (f v u) Q X.xe j):
  wpAny (model X.prog X.w) X.A (eval a X.env) (λv g=>wpAny (model X.prog X.w) X.A (eval b X.env) (λu i=>wpAny (model X.prog X.w) X.A (f v u) Q X.xe i) X.xe g) X.xe s:=by
 exact aI (ha c s e H _ I h) λv o ⟨x,k,p,q,r⟩=>aI (hb c o e k _ p r) λu j ⟨y,d,t,z,B⟩=>hf v u j x y d t q z B
def Bp (i:Nat):TE:=λσ H Q=>∃v,σ[i]?=Z9 (Z9 v)/\Q v H
def tC (v:V):TE:=λ_ H Q=>Q v H
theorem rE (hN:X.N[i]?=Z9 x)(j:Vis X.env.scope x)(hd:VI x:=by decide)(f:(x==("__classdict__":Str))=false:=by decide):PE X (.Name x pos) (Bp i):=by
 rintro d s k H Q I ⟨v,e,h⟩
 obtain⟨m,hn,hl⟩:=I.loc;obtain⟨u,r,l⟩:=hl i x v hN e j;have b:EP X d k Q u s:=⟨v,H,I,r,h⟩;rcases l with⟨hk,hm⟩|⟨hk,c,g,a⟩
 .exact tj (qk I.ok.kind hk hn hm b) hd
 .rcases hk with hk|hk
  .exact tj (wpAny_loadName_cell I.ok.kind hk g a b) hd
  .exact tj (wpAny_loadName_free I.ok.kind hk g a b f) hd
theorem LO {i j pos}:PE X (.Constant (.int i) j pos) (tC (.int i)):=λ_ _ _ H _ I h=>wpAny_Constant_int ⟨.int i,H,I.tok _,⟨_,rfl⟩,h⟩
theorem LP {b j pos}:PE X (.Constant (.bool b) j pos) (tC (.bl b)):=λ_ _ _ H _ I h=>Constant_bool ⟨.bl b,H,I,rfl,h⟩
theorem LQ {j pos}:PE X (.Constant .none j pos) (tC .bU):=λ_ _ _ H _ I h=>Constant_none ⟨.bU,H,I,rfl,h⟩
theorem Gw {x j pos}:PE X (.Constant (.str x) j pos) (tC (.str x)):=λ_ _ _ H _ I h=>Calls.Constant_str ⟨.str x,H,I.tok _,⟨_,rfl⟩,h⟩
def Gl (X:Cx)(x:Str):Prop:=X.env.kindOf x=Z9 .globalImplicit
theorem z3m (I:Inv X a c H s)(b:Gl X x)(hm:X.mg x=Z9 u)(h:Q u s)
  (hd:VI x:=by decide):wpAny (model X.prog X.w) X.A (eval (.Name x pos) X.env) Q E s:=
 j6 I.ok.kind b (o6 (I.ok.glob▸I.mod.glob.keeps I.bk) hm h) hd
theorem z56 (I:Inv X a f H s)(b:Gl X x)(hm:X.mg x=Z8)(c:eh x=Z9 u)(h:Q u s)
  (hn:x≠"__name__":=by decide) (hd:VI x:=by decide):wpAny (model X.prog X.w) X.A (eval (.Name x pos) X.env) Q E s:=by
 obtain⟨g,d,e⟩:=I.mod.blt;exact j6 I.ok.kind b (Calls.loadGlobal_builtin (I.ok.glob▸I.mod.glob.keeps I.bk) hm (I.ok.blt▸d.keeps I.bk) ((e x hn).trans c) h) hd
theorem LR (hg:Gl X x)(hm:X.mg x=Z9 u)(r:RelV v u)(hd:VI x:=by decide):PE X (.Name x pos) (tC v):=λ_ _ _ H _ I h=>z3m I hg hm ⟨v,H,I,r,h⟩ hd
theorem LS (a:Gl X x)(hm:X.mg x=Z8)(b:eh x=Z9 u)(r:RelV v u)(hn:x≠"__name__":=by decide)(hd:VI x:=by decide):PE X (.Name x pos) (tC v):=λ_ _ _ H _ I h=>z56 I a hm b ⟨v,H,I,r,h⟩ hn hd
variable {a b:Expr}{ta tb:TE}{pos:Pos}
def tB (t:TE):TT:=λσ H Q=>t σ H λx H1=>∃c,x=.bl c/\Q c H1
theorem LU (h:PE X e t)(he:∀whole,qj e X.env whole=(do let v <-whole;ux e.pos;tz [v] (u1 v)):=by intro _;rfl):PT X e (tB t):=by intro pins s σ H Q I hw;refine isTrue_plain (aI (h pins s σ H _ I hw) λv s1 ⟨x,H1,I1,r1,q1⟩=>?_) (he _);obtain⟨d,rfl,q⟩:=q1;cases r1;exact gg ⟨H1,I1,q⟩
variable {tA y4:TT}{rest:List Expr}
def Bq (t u:TT):TT:=λσ H Q=>t σ H λc H1=>if c=Z7 then u σ H1 Q else Q Z6 H1
def LW (t u:TT):TT:=λσ H Q=>t σ H λc H1=>if c=Z7 then Q Z7 H1 else u σ H1 Q
def Bt (t:TT):TT:=λσ H Q=>t σ H λc H1=>Q (!c) H1
theorem LX (ha:PT X a tA):PW X (.BoolOp .And [a] pos) tA:=by
 intro f b s d H Q I h;refine isTrue_and (aI (ha b s d H Q I h) λc g e=>?_);cases c with
 |true=>exact isTrue_and_nil e
 |false=>exact e
theorem LY (ha:PT X a tA):PW X (.BoolOp .Or [a] pos) tA:=by
 intro f b s d H Q I h;refine isTrue_or (aI (ha b s d H Q I h) λc g e=>?_);cases c with
 |false=>exact isTrue_or_nil e
 |true=>exact e
theorem LZ (ha:PT X a tA)(hb:PW X (.BoolOp .And (b::rest) pos) y4):PW X (.BoolOp .And (a::b::rest) pos) (Bq tA y4):=by
 intro j d s e H Q I h;refine isTrue_and (aI (ha d s e H _ I h) λc k ⟨f,g,i⟩=>?_);cases c with
 |true=>exact hb j d k e f Q g i
 |false=>exact⟨f,g,i⟩
theorem L0 (ha:PT X a tA)(hb:PW X (.BoolOp .Or (b::rest) pos) y4):PW X (.BoolOp .Or (a::b::rest) pos) (LW tA y4):=by
 intro j d s e H Q I h;refine isTrue_or (aI (ha d s e H _ I h) λc k ⟨f,g,i⟩=>?_);cases c with
 |true=>exact⟨f,g,i⟩
 |false=>exact hb j d k e f Q g i
theorem Gx (ha:PT X a tA):PT X (.UnaryOp .Not a pos) (Bt tA):=by intro b s d H Q I h;exact isTrue_not (ha b s d H (λc e=>Q (!c) e) I h)
def L1 (ta tb:TE):TE:=λσ H Q=>ta σ H λx H1=>∃c,x=.bl c/\if c=Z7 then tb σ H1 Q else Q (.bl Z6) H1
def Bu (ta tb:TE):TE:=λσ H Q=>ta σ H λx H1=>∃c,x=.bl c/\if c=Z7 then Q (.bl Z7) H1 else tb σ H1 Q
theorem Gy {op}(h:PE X a t):PE X (.BoolOp op [a] pos) t:=λb s c H Q I d=>BoolOp_one (h b s c H Q I d)
theorem L3 (ha:PE X a ta)(hb:PE X (.BoolOp .And (b::rest) pos) tb):PE X (.BoolOp .And (a::b::rest) pos) (L1 ta tb):=by
 intro d s f H Q I h;refine BoolOp_and (aI (ha d s f H _ I h) λv j ⟨x,g,i,k,e⟩=>?_);obtain⟨c,rfl,e⟩:=e;cases k;refine gg ?_;cases c with
 |true=>exact hb d j f g Q i e
 |false=>exact⟨.bl Z6,g,i,rfl,e⟩
theorem L4 (ha:PE X a ta)(hb:PE X (.BoolOp .Or (b::rest) pos) tb):PE X (.BoolOp .Or (a::b::rest) pos) (Bu ta tb):=by
 intro d s f H Q I h;refine BoolOp_or (aI (ha d s f H _ I h) λv j ⟨x,g,i,k,e⟩=>?_);obtain⟨c,rfl,e⟩:=e;cases k;refine gg ?_;cases c with
 |false=>exact hb d j f g Q i e
 |true=>exact⟨.bl Z7,g,i,rfl,e⟩
def L5 (t:TT)(ta tb:TE):TE:=λσ H Q=>t σ H λc H1=>if c=Z7 then ta σ H1 Q else tb σ H1 Q
theorem L6 (l:PT X c tA)(ha:PE X a ta)(hb:PE X b tb):PE X (.IfExp c a b pos) (L5 tA ta tb):=by
 intro e s f H Q I h;refine wpAny_IfExp (aI (l e s f H _ I h) λd g ⟨i,j,k⟩=>?_);cases d with
 |true=>exact ha e g f i Q j k
 |false=>exact hb e g f i Q j k
end
def SqL (K:Z5)(H:Hp)(a:Addr)(xs:List V):Prop:=Rd H a (.lst xs)\/∃(o:Obj) (its:Array Value) (n:Nat),K.lookup a=Z9 o/\o.cls=.type "list"/\o.dict=Z8/\o.data=.seq its n/\its.size<=bf/\Vals xs its.toList
def cL (K:Z5)(H:Hp)(a:Addr)(xs:List V):Prop:=Rd H a (.tup xs)\/∃(o:Obj) (its:Array Value) (n:Nat),K.lookup a=Z9 o/\o.cls=.type "tuple"/\o.dict=Z8/\o.data=.seq its n/\its.size<=bf/\Vals xs its.toList
def Bv:Value->Option V
 |.none=>Z9 .bU
 |.bool b=>Z9 (.bl b)
 |.int i _=>Z9 (.int i)
 |.str x _=>Z9 (.str x)
 |.ref a=>Z9 (.ref a)
 |.type n=>Z9 (.ty n)
 |_=>Z8
theorem RelV.abs (r:RelV x u):Bv u=Z9 x:=by
 cases x with
 |bU=>cases r;rfl
 |bl _=>cases r;rfl
 |int _=>obtain⟨t,rfl⟩:=r;rfl
 |str _=>obtain⟨t,rfl⟩:=r;rfl
 |ref _=>cases r;rfl
 |ty _=>cases r;rfl
theorem RelV.inj (r:RelV x u)(q:RelV y u):x=y:=vn (r.abs.symm.trans q.abs)
theorem Vals.inj:∀{xs ys:List V} {us:List Value},Vals xs us->Vals ys us->xs=ys
 |_,_,_,.nil,.nil=>rfl
 |_,_,_,.cons r t,.cons r' t'=>by rw[r.inj r',Vals.inj t t']
section
variable {X:Cx}{pins:List (Addr×Obj)}{σ:St}{H:Hp}{s:ak}{a:Addr}{xs ys:List V}
theorem SqL.of {K:Z5}(h:H a=Z9 (.lst xs)):SqL K H a xs:=.inl (.inl h)
theorem cL.of {K:Z5}(h:H a=Z9 (.tup xs)):cL K H a xs:=.inl (.inl h)
theorem Inv.list (I:Inv X pins σ H s)(h:SqL X.K H a xs):∃b,Vals xs b/\PlainL s.heap a b.toArray/\xs.length<=bf:=by
 rcases h with h|⟨o,b,n,hk,c,hd,hs,d,r⟩
 .obtain⟨z,b,n,r,e⟩:=h.ok I.hok;exact⟨b,r,⟨_,n,e,rfl,rfl,rfl⟩,z⟩
 .refine⟨b.toList,r,⟨o,n,I.eY a o hk,c,hd,by simpa using hs⟩,?_⟩;have e:=r.length;simp at e;omega
theorem Inv.tuple (I:Inv X pins σ H s)(h:cL X.K H a xs):∃b,Vals xs b/\IsTup s.heap a b.toArray/\xs.length<=bf:=by
 rcases h with h|⟨o,b,n,hk,c,_,hs,d,r⟩
 .obtain⟨z,b,r,p⟩:=h.ok I.hok;exact⟨b,r,p.tup,z⟩
 .refine⟨b.toList,r,⟨o,I.eY a o hk,c,n,by simpa using hs⟩,?_⟩;have e:=r.length;simp at e;omega
theorem Inv.lG (I:Inv X pins σ H s)(h:cL X.K H a xs):∃l,Vals xs l/\LG s.heap a l.toArray/\xs.length<=bf:=by
 rcases h with h|⟨o,l,n,q,b,hd,hs,c,r⟩
 .obtain⟨z,l,r,n,q⟩:=h.ok I.hok;exact⟨l,r,⟨_,n,q,rfl,rfl,rfl⟩,z⟩
 .exact⟨l.toList,r,⟨o,n,I.eY a o q,b,hd,(by simpa using hs)⟩,(by have w:=r.length;simp at w;omega)⟩
theorem Inv.lH (I:Inv X pins σ H s)(h:SqL X.K H a xs)(i:SqL X.K H a ys):xs=ys:=by
 obtain⟨c,r,⟨o,n,e,_,_,d⟩,_⟩:=I.list h;obtain⟨b,j,⟨k,l,f,_,_,g⟩,_⟩:=I.list i;rw[e]at f;cases f;rw[d]at g;injection g with d1 _;have:c=b:=by simpa using congrArg Array.toList d1
 subst this;exact r.inj j
theorem Inv.jN (I:Inv X pins σ H s)(h:cL X.K H a xs)(i:cL X.K H a ys):xs=ys:=by
 obtain⟨c,r,⟨o,e,_,n,d⟩,_⟩:=I.tuple h;obtain⟨b,j,⟨k,f,_,l,g⟩,_⟩:=I.tuple i;rw[e]at f;cases f;rw[d]at g;injection g with d1 _;have:c=b:=by simpa using congrArg Array.toList d1
 subst this;exact r.inj j
end
abbrev Cx.cO (X:Cx)(E:Value->ak->Prop):Cx:={X with xe:=E}
abbrev Cx.lI (X:Cx):Cx:=X.cO λ_ _=>False
theorem Cx.Ok.cO {X:Cx}(ok:X.Ok)(E:Value->ak->Prop):(X.cO E).Ok:=⟨ok.mod,ok.kind,ok.glob,ok.blt,ok.above,ok.inj,ok.has,ok.pY,ok.hd,ok.frames,ok.rC,ok.rD,ok.bs,ok.iL,ok.gT,ok.gU,ok.cN,ok.nD,ok.y2⟩
theorem Cx.Ok.bK {X:Cx}(ok:(X.cO E).Ok):X.Ok:=⟨ok.mod,ok.kind,ok.glob,ok.blt,ok.above,ok.inj,ok.has,ok.pY,ok.hd,ok.frames,ok.rC,ok.rD,ok.bs,ok.iL,ok.gT,ok.gU,ok.cN,ok.nD,ok.y2⟩
section
variable {X:Cx}{pins:List (Addr×Obj)}{σ:St}{H:Hp}{s:ak}{E:Value->ak->Prop}
theorem Inv.cO (I:Inv X pins σ H s)(E:Value->ak->Prop):Inv (X.cO E) pins σ H s:=⟨I.ok.cO E,I.os,I.bare,I.base,I.loc,I.cell,I.free,I.bE,I.pin,I.hok,I.len,I.fx⟩
theorem Inv.bK (I:Inv (X.cO E) pins σ H s):Inv X pins σ H s:=⟨I.ok.bK,I.os,I.bare,I.base,I.loc,I.cell,I.free,I.bE,I.pin,I.hok,I.len,I.fx⟩
theorem SP.bK (h:SP (X.cO E) pins D f c):SP X pins D f c:=by
 cases f with
 |next=>obtain⟨a,b,I,q⟩:=h;exact⟨a,b,I.bK,q⟩
 |brk=>obtain⟨a,b,I,q⟩:=h;exact⟨a,b,I.bK,q⟩
 |cont=>obtain⟨a,b,I,q⟩:=h;exact⟨a,b,I.bK,q⟩
 |ret u=>obtain⟨v,a,b,I,r,q⟩:=h;exact⟨v,a,b,I.bK,r,q⟩
theorem PE.lI (h:PE X.lI e t):PE X e t:=λpins s σ H Q I hw=>gk (h pins s σ H Q (I.cO _) hw) (λ_ _ ⟨v,H',I',r,q⟩=>⟨v,H',I'.bK,r,q⟩) λ_ _ z=>False.elim z
theorem PT.lI (h:PT X.lI e t):PT X e t:=λpins s σ H Q I hw=>gk (h pins s σ H Q (I.cO _) hw) (λ_ _ ⟨H',I',q⟩=>⟨H',I'.bK,q⟩) λ_ _ z=>False.elim z
theorem PSs.lI {st:List Stmt}(h:PSs X.lI st t):PSs X st t:=λpins s σ H D I a=>gk (h pins s σ H D (I.cO _) a) (λ_ _ q=>q.bK) λ_ _ z=>False.elim z
end
section
variable {X:Cx}{st:Stmt}{rest:List Stmt}{t u:TS}{e:Expr}{te:TE}{pos:Pos}
def L7:TS:=λD σ H=>D.nx σ H
def Bw (t u:TS):TS:=λD σ H=>t {D with nx:=u D} σ H
theorem L8:PSs X [] L7:=λ_ _ a H _ I h=>mn ⟨a,H,I,h⟩
theorem BA (c:PS X st t)(d:PSs X rest u):PSs X (st::rest) (Bw t u):=by
 intro a s e H D I h;refine kb (aI (c a s e H {D with nx:=u D} I h) λf g q=>?_);cases f with
 |next=>obtain⟨b,i,j,q⟩:=q;exact d a g b i D j q
 |ret v=>exact q
 |brk=>exact q
 |cont=>exact q
theorem L9 (h1:PS X st t):PSs X [st] t:=by
 intro pins s σ H D I h;refine kb (aI (h1 pins s σ H D I h) λf s1 q=>?_);cases f with
 |next=>exact mn q
 |ret v=>exact q
 |brk=>exact q
 |cont=>exact q
theorem Inv.quiet (I:Inv X a b H s):interactive X.env=false:=by simp[interactive,I.ok.kind]
def Gz (te:TE):TS:=λD σ H=>te σ H λ_ H1=>D.nx σ H1
theorem L' (c:PE X e te)(hs:l5 e Z8 pos.line X.env=pure false:=by rfl):PS X (.Expr e pos) (Gz te):=by intro a s b H D I h;exact wpAny_Expr_any (aI (c a s b H _ I h) λv i ⟨x,d,f,j,g⟩=>⟨b,d,f,g⟩) I.quiet hs
def BB (te:TE):TS:=λD σ H=>te σ H D.rt
theorem BD (c:PE X e te):PS X (.Return (Z9 e) pos) (BB te):=by intro a s b H D I h;exact wpAny_Return_some (aI (c a s b H _ I h) λv j ⟨x,d,f,g,i⟩=>⟨x,b,d,f,g,i⟩)
def BE (c:TT)(t u:TS):TS:=λD σ H=>c σ H λb H1=>if b=Z7 then t D σ H1 else u D σ H1
theorem GA (l:PT X c tc)(ha:PSs X a t)(hb:PSs X b u):PS X (.If c a b pos) (BE tc t u):=by
 intro e s f H D I h;refine wpAny_If (aI (l e s f H _ I h) λd g ⟨i,j,k⟩=>?_);cases d with
 |true=>exact ha e g f i D j k
 |false=>exact hb e g f i D j k
end
abbrev TG:=V->St->Hp->(St->Hp->Prop)->Prop
abbrev uJ:=List V->St->Hp->(St->Hp->Prop)->Prop
def PG (X:Cx)(target:Expr)(t:TG):Prop:=∀(pins:List (Addr×Obj)) (s:ak) (σ:St) (H:Hp) (v:V) (u:Value) (Q:St->Hp->Prop),Inv X pins σ H s->RelV v u->t v σ H Q->wpAny (model X.prog X.w) X.A (tm target X.env u) (λ_ s'=>∃σ' H',Inv X pins σ' H' s'/\Q σ' H') X.xe s
def PGs (X:Cx)(ts:List Expr)(t:uJ):Prop:=∀(pins:List (Addr×Obj)) (s:ak) (σ:St) (H:Hp) (vs:List V) (us:List Value) (Q:St->Hp->Prop),Inv X pins σ H s->Vals vs us->t vs σ H Q->wpAny (model X.prog X.w) X.A (assignInOrder ((io ts X.env).map (·.2)) us) (λ_ s'=>∃σ' H',Inv X pins σ' H' s'/\Q σ' H') X.xe s
abbrev BF:=V->V->V->Hp->(Hp->Prop)->Prop
def BH (X:Cx)(t:BF):Prop:=∀(pins:List (Addr×Obj)) (s:ak) (σ:St) (H:Hp) (o i v:V) (ov iv u:Value) (Q:Hp->Prop),Inv X pins σ H s->RelV o ov->RelV i iv->RelV v u->t o i v H Q->wpAny (model X.prog X.w) X.A (setItem ov iv u) (λ_ s'=>∃H',Inv X pins σ H' s'/\Q H') X.xe s
section
variable {X:Cx}{pos:Pos}
def BJ (i:Nat):TG:=λv σ H Q=>Q (σ.set i (Z9 v)) H
theorem GB (hN:X.N.Nodup)(hi:X.N[i]?=Z9 x)(hx:Loc X.env.scope x)(hf:X.fn x=Z7\/X.env.scope.names.lookup x=Z9 .local:=by first|exact .inl rfl|exact .inr rfl|assumption):PG X (.Name x pos) (BJ i):=by intro pins s σ H v u Q I r h;exact t0 (z6e I hN hi hx r (λs' I'=>⟨_,H,I',h⟩) hf)
def BK:uJ:=λvs σ H Q=>vs=[]/\Q σ H
def Ma (t:TG)(u:uJ):uJ:=λvs σ H Q=>∃v r,vs=v::r/\t v σ H λσ' H'=>u r σ' H' Q
theorem Mb:PGs X [] BK:=by
 rintro a s b H c d Q I r ⟨rfl,h⟩
 cases r;exact assignInOrder_nil ⟨b,H,I,h⟩
theorem zh3 (c:PG X e t)(d:PGs X es u)
  (hs:(io (e::es) X.env).map (·.2)=tm e X.env::(io es X.env).map (·.2):=by rfl):PGs X (e::es) (Ma t u):=by
 rintro a s f H l m Q I r ⟨v,n,rfl,h⟩
 cases r with
 |cons r rr=>rw[hs];refine assignInOrder_cons (aI (c a s f H _ _ _ I r h) λ_ g ⟨b,i,j,k⟩=>?_);exact d a g b i _ _ Q j rr k
def BL (K:Z5)(n:Nat)(t:uJ):TG:=λv σ H Q=>∃a xs,v=.ref a/\cL K H a xs/\xs.length=n/\t xs σ H Q
theorem zp1 (g:X.calm=Z7)(h:PGs X es t)
  (hn:(io es X.env).length=n:=by rfl) (d:(io es X.env).findIdx? (·.1)=none:=by rfl):PG X (.Tuple es k pos) (BL X.K n t):=by
 rintro c s f H v u Q I r ⟨a,i,rfl,j,hl,l⟩
 cases r;obtain⟨m,rv,ht,w⟩:=I.tuple j;refine assign_Tuple_tuple (I.ok.hd g) ht (by simp[hn,<-hl,rv.length]) d λp hx=>?_;have q:Inv X c f H {s with heap:=p}:=I.kept λb o e=>hx b o (cz (bg e)) e;exact h c _ f H i _ Q q (by simpa using rv) l
def rF (te:TE)(g:TG):TS:=λD σ H=>te σ H λx H1=>g x σ H1 D.nx
theorem znx (d:PE X e f)(i:PG X b g)(hs:sg [b] e pos.line X.env=pure false:=by rfl)(j:sj [b] e X.env=pure none:=by rfl)
  (k:(io [b] X.env).map (·.2)=[tm b X.env]:=by rfl):PS X (.Assign [b] e pos) (rF f g):=by
 intro a s c H D I h;refine wpAny_Assign_stores (aI (d a s c H _ I h) λv l ⟨x,m,n,o,p⟩=>?_) hs j;rw[k];exact aI (i a l c m x v _ n o p) λ_ r q=>q
theorem zil (hN:X.N.Nodup)(hi:X.N[i]?=Z9 x)(hx:Loc X.env.scope x)(he:PE X e te)(hs:l5 e (Z9 (.Name x pos')) pos.line X.env=pure false:=by rfl)(hf:X.fn x=Z7\/X.env.scope.names.lookup x=Z9 .local:=by first|exact .inl rfl|exact .inr rfl|assumption):
  PS X (.Assign [.Name x pos'] e pos) (rF te (BJ i)):=by
 intro pins s σ H D I h;refine wpAny_Assign_Name (aI (he pins s σ H _ I h) λv s1 ⟨y,H1,I1,r1,q1⟩=>?_) hs;exact z6e I1 hN hi hx r1 (λs2 I2=>⟨_,H1,I2,q1⟩) hf
end
section
variable {X:Cx}{pos:Pos}
def Mc (c:TT)(tb:TS):TS:=λD σ H=>∃W:Nat->St->Hp->Prop,(∃m,W m σ H)/\∀m σ H,W m σ H->c σ H λb H1=>if b=Z7 then ∃N:St->Hp->Prop,(∀σ' H',N σ' H'->∃m',m'<m/\W m' σ' H')/\tb {D with nx:=N,ct:=N,bk:=D.nx} σ H1 else D.nx σ H1
theorem Md (hp:g6 (model X.prog X.w) X.A X.env X.xe)(hc:PT X c tc)(hb:PSs X body tb):PS X (.While c body [] pos) (Mc tc tb):=by
 intro pins s σ H D I h;obtain⟨W,⟨m0,w0⟩,turn⟩:=h;refine wpAny_While (codeAny_whileLoop (λn s'=>∃σ' H',Inv X pins σ' H' s'/\W n σ' H') ?_ m0 ⟨σ,H,I,w0⟩)
 rintro n s1 ⟨y6,H1,I1,w1⟩
 refine i9 hp (aI (hc pins s1 y6 H1 _ I1 (turn n y6 H1 w1)) λb s2 ⟨H2,I2,q2⟩=>?_);cases b with
 |true=>
  obtain⟨N,hN,q2⟩:=q2;refine i9 hp (aI (hb pins s2 y6 H2 _ I2 q2) λf s3 q3=>?_);cases f with
  |next=>obtain⟨lJ,H3,I3,n3⟩:=q3;obtain⟨m',hm,w3⟩:=hN lJ H3 n3;exact⟨m',hm,lJ,H3,I3,w3⟩
  |cont=>obtain⟨lJ,H3,I3,n3⟩:=q3;obtain⟨m',hm,w3⟩:=hN lJ H3 n3;exact⟨m',hm,lJ,H3,I3,w3⟩
  |brk=>exact q3
  |ret v=>exact q3
 |false=>exact mn ⟨y6,H2,I2,q2⟩
end
structure It where
 go:Nat->Hp->Prop
 jO:Nat->Hp->V->Hp->Prop
 stop:Nat->Hp->Prop
def FpOk (X:Cx)(pins:List (Addr×Obj))(H:Hp)(b:Addr):Prop:=H b=Z8/\b≠X.env.locals/\b∉X.fs/\(b∈X.ex\/X.s₀.heap.objs.size<=b)/\(∀x c,X.env.cells.lookup x=Z9 c->c≠b)/\∀p∈X.pn++pins,p.1≠b
theorem Inv.nZ (I:Inv X a g H s)(hb:s.heap.objs.size<=b)(hn:d b=Z8):FpOk X a d b:=by
 refine⟨hn,Nat.ne_of_gt (b7 I.lt hb),I.wd hb,.inr (cc I.sz hb),λx c e z=>?_,λp f z=>?_⟩
 .obtain⟨v,q⟩:=I.cell x c e;exact absurd (b7 q.lt (z▸hb)) (cj _)
 .exact absurd (b7 (bg (I.pin p f).1) (z▸hb)) (cj _)
structure Turn (P:bu)(w:World)(K:Z5)(tg:Expr)(J:It)(fp:List Addr)(it:Addr)(tn:Nat->Heap->Prop):Prop where
 mem:it∈fp
 obj:∀i h,tn i h->∀b∈fp,∃o,h.get? b=Z9 o/\∀v,o.data≠.cell v
 keep:∀i h h',tn i h->(∀b∈fp,∀o,h.get? b=Z9 o->h'.get? b=Z9 o)->tn i h'
 item:∀(X:Cx),X.prog=P->X.w=w->X.K=K->X.calm=Z7->∀(i:Nat) (pins:List (Addr×Obj)) (s:ak) (σ:St) (H:Hp) (E:Value->ak->Prop),Inv X pins σ H s->(∀b∈fp,FpOk X pins H b)->tn i s.heap->J.go i H->wpAny (model P w) X.A (pyNext (.ref it)) (λr s1=>∃u,r=Z9 u/\wpAny (model P w) X.A (mq tg (.ref it) u) (λ_ s2=>∃x H',Inv X pins σ H' s2/\RelV x u/\J.jO i H x H'/\tn (i+1) s2.heap/\∀b∈fp,H' b=Z8) E s1) E s
 done:∀(X:Cx),X.prog=P->X.w=w->X.K=K->X.calm=Z7->∀(i:Nat) (pins:List (Addr×Obj)) (s:ak) (σ:St) (H:Hp) (E:Value->ak->Prop),Inv X pins σ H s->(∀b∈fp,FpOk X pins H b)->tn i s.heap->J.stop i H->wpAny (model P w) X.A (pyNext (.ref it)) (λr s1=>r=Z8/\Inv X pins σ H s1) E s
 self:∀(A:fq) (i:Nat) (s:ak) (Q:Value->ak->Prop) (E:Value->ak->Prop),tn i s.heap->Q (.ref it) s->wpAny (model P w) A (vf (.ref it)) Q E s
abbrev TI:=St->Hp->(It->Hp->Prop)->Prop
def y7 (X:Cx)(pins:List (Addr×Obj))(σ:St)(tg:Expr)(R:It->Hp->Prop)(wm:Value)(s2:ak):Prop:=∃(it:Addr) (fp:List Addr) (tn:Nat->Heap->Prop) (J:It) (H':Hp),wm=.ref it/\Inv X pins σ H' s2/\Turn X.prog X.w X.K tg J fp it tn/\tn 0 s2.heap/\(∀b∈fp,FpOk X pins H' b)/\R J H'
def PI (X:Cx)(tg iter:Expr)(wi:TI):Prop:=∀(pins:List (Addr×Obj)) (s:ak) (σ:St) (H:Hp) (R:It->Hp->Prop),Inv X pins σ H s->wi σ H R->wpAny (model X.prog X.w) X.A (eval iter X.env) (λv s1=>wpAny (model X.prog X.w) X.A (vf v) (y7 X pins σ tg R) X.xe s1) X.xe s
theorem zl4 (ho:s.heap.get? b=Z9 o)(c:o.cls=.type n)(hd:o.data=.fields d)
  (hn:["enumerate","zip","dict_itemiterator","dict_reverseitemiterator","odict_iterator","itertools.zip_longest","itertools.pairwise"].contains n=Z6) (a:Q () s):wpAny M A (mq e (.ref b) u) Q E s:=by
 cases e<;>first
  |exact av a
  |(cases u<;>first
   |exact av a
   |(refine aa (u3 ho ?_)
     rw[c,hd];show wpAny M A (if(["enumerate","zip","dict_itemiterator","dict_reverseitemiterator","odict_iterator","itertools.zip_longest","itertools.pairwise"].contains n&&d[0]?==Z9 (qm _))=Z7 then _ else _) Q E s;rw[vm (by intro h;rw[hn]at h;cases h)];exact av a))
def GC (K:Z5)(a:Addr):It:=⟨λi H=>∃xs x,SqL K H a xs/\xs[i]?=Z9 x,λi H x H'=>H'=H/\∀xs,SqL K H a xs->xs[i]?=Z9 x,λi H=>∃xs,SqL K H a xs/\xs.length<=i⟩
def GF (K:Z5)(a:Addr):It:=⟨λi H=>∃xs x,cL K H a xs/\xs[i]?=Z9 x,λi H x H'=>H'=H/\∀xs,cL K H a xs->xs[i]?=Z9 x,λi H=>∃xs,cL K H a xs/\xs.length<=i⟩
def y8 (lo:Int)(n:Nat):It:=⟨λi _=>i<n,λi H x H'=>H'=H/\x=.int (lo+i),λi _=>n<=i⟩
theorem Me {K:Z5}(a g:Addr):Turn P w K U (GC K a) [g] g (λi h=>h.IsListIter g a i) where
 mem:=by simp
 obj:=λi h st b hb=>by
  have e:b=g:=by simpa using hb
  subst e;obtain⟨o,e,c,d⟩:=st;exact⟨o,e,λv z=>by rw[d]at z;cases z⟩
 keep:=λi h m st k=>st.at λo e=>k g (by simp) o e
 item:=by intro X n q r G i f s J H E I hf st t;subst n q r;obtain⟨L,x,l,hx⟩:=t;obtain⟨y,rv,p,M⟩:=I.list l;obtain⟨u,hu,N⟩:=rv.get hx;obtain⟨A,B,O,C,D,F⟩:=hf g (by simp);refine wpAny_pyNext_list_item st p.isList (by simpa using hu) λm j Q=>?_;have R:Inv X f J H {s with heap:=m}:=I.turned (λb o hb e=>(Q.2 b hb).trans e) A B C D F;obtain⟨o,e,c,d⟩:=id j;exact⟨u,rfl,zl4 e c d (by decide) ⟨x,H,R,N,⟨rfl,λV S=>by rw[I.lH S l];exact hx⟩,j,λb hb=>(hf b hb).1⟩⟩
 done:=by intro X n q r G i f s J H E I hf st t;subst n q r;obtain⟨L,l,hx⟩:=t;obtain⟨y,rv,p,M⟩:=I.list l;obtain⟨A,B,O,C,D,F⟩:=hf g (by simp);have hl:=rv.length;exact wpAny_pyNext_list_end (I.ok.hd G) st p.isList (by grind) λm T=>⟨rfl,I.turned (λb o hb e=>T b o hb e) A B C D F⟩
 self:=λ_ _ _ _ _ st h=>wpAny_pyIter_listiter st h
theorem Mf {K:Z5}(a g:Addr):Turn P w K U (GF K a) [g] g (λi h=>h.IsTupleIter g a i) where
 mem:=by simp
 obj:=λi h st b hb=>by
  have e:b=g:=by simpa using hb
  subst e;obtain⟨o,e,c,d⟩:=st;exact⟨o,e,λv z=>by rw[d]at z;cases z⟩
 keep:=λi h m st k=>st.at λo e=>k g (by simp) o e
 item:=by intro X n q r G i f s J H E I hf st t;subst n q r;obtain⟨L,x,l,hx⟩:=t;obtain⟨y,rv,p,M⟩:=I.tuple l;obtain⟨u,hu,N⟩:=rv.get hx;obtain⟨A,B,O,C,D,F⟩:=hf g (by simp);refine wpAny_pyNext_tuple_item st p (by simpa using hu) λm j Q=>?_;have R:Inv X f J H {s with heap:=m}:=I.turned (λb o hb e=>(Q.2 b hb).trans e) A B C D F;obtain⟨o,e,c,d⟩:=id j;exact⟨u,rfl,zl4 e c d (by decide) ⟨x,H,R,N,⟨rfl,λV S=>by rw[I.jN S l];exact hx⟩,j,λb hb=>(hf b hb).1⟩⟩
 done:=by intro X n q r G i f s J H E I hf st t;subst n q r;obtain⟨L,l,hx⟩:=t;obtain⟨y,rv,p,M⟩:=I.tuple l;obtain⟨A,B,O,C,D,F⟩:=hf g (by simp);have hl:=rv.length;exact wpAny_pyNext_tuple_end (I.ok.hd G) st p (by grind) λm T=>⟨rfl,I.turned (λb o hb e=>T b o hb e) A B C D F⟩
 self:=λ_ _ _ _ _ st h=>wpAny_pyIter_tupleiter st h
theorem Mh {K:Z5}(a:Addr)(f:Int)(n:Nat):Turn P w K L (y8 f n) [a] a (λi h=>IsRangeIter h a (f+(i:Nat)*1) ((n:Int)-(i:Nat)) 1) where
 mem:=by simp
 obj:=λi h st b hb=>by
  have e:b=a:=by simpa using hb
  subst e;exact⟨_,st,λv z=>by cases z⟩
 keep:=λi h g st k=>k a (by simp) _ st
 item:=by intro X x y A j i c s B H E I hf st l;subst x y A;obtain⟨m,p,C,q,r,u⟩:=hf a (by simp);refine(Walks.range (prog:=X.prog) (w:=X.w) (I.ok.hd j) a f 1 n).item i s _ _ l st λv g D F d kk=>?_;obtain⟨t,rfl⟩:=F;have G:Inv X c B H {s with heap:=g,toks:=D}:=I.turned (λb o hb e=>kk b o (by simpa using hb) e) m p q r u;refine⟨_,rfl,zl4 d rfl rfl (by decide) ⟨.int (f+i),H,G,⟨t,?_⟩,⟨rfl,rfl⟩,d,λb hb=>(hf b hb).1⟩⟩;rw[Int.mul_one]
 done:=by intro X x y A j i c s B H E I hf st l;obtain⟨m,p,C,q,r,u⟩:=hf a (by simp);exact wpAny_pyNext_range_end (I.ok.hd j) st (by have:n<=i:=l;omega) λg J=>⟨rfl,I.turned (λb o hb e=>J b o hb e) m p q r u⟩
 self:=λ_ _ _ _ _ st h=>wpAny_pyIter_rangeiter st h
section
variable {X:Cx}{tg:Expr}
theorem zfz {a:Int}(I:Inv X d g H s)(h:-(2 ^ 62)<=a)(i:a<2 ^ 62)(j:-(2 ^ 62)<=c)(k:c<2 ^ 62)
  (q:R (y8 a (c-a).toNat) H):wpAny (model X.prog X.w) X.A (vf (.ref s.heap.objs.size)) (y7 X d g tg R) E {s with heap:=s.heap.push {cls:=.type "range",data:=.fields #[.int a t,.int c u,.int 1 v]},toks:=tk}:=by
 refine wpAny_pyIter_range (IsRange.new ..) (small_one h i j k) ?_;have f:Inv X d g H {s with heap:=s.heap.push {cls:=.type "range",data:=.fields #[.int a t,.int c u,.int 1 v]},toks:=tk}:=I.kept λb o e=>af _ e;refine⟨(s.heap.push {cls:=.type "range",data:=.fields #[.int a t,.int c u,.int 1 v]}).objs.size,[(s.heap.push {cls:=.type "range",data:=.fields #[.int a t,.int c u,.int 1 v]}).objs.size],_,_,H,rfl,f.kept λb o e=>af _ e,Mh _ a (c-a).toNat,?_,λb hb=>?_,q⟩
 .have l:a+((0:Nat):Int)*1=a:=by simp
  have m:(((c-a).toNat:Nat):Int)-((0:Nat):Int)=Builtin.Range.rangeSize a c 1:=by rw[rangeSize_one];split<;>omega
  rw[l,m];exact b6 _ rfl
 .have e:b=(s.heap.push {cls:=.type "range",data:=.fields #[.int a t,.int c u,.int 1 v]}).objs.size:=by simpa using hb
  subst e;exact f.nZ (ah _) (f.hok.fresh (ah _))
def Mj (ta:TA):TI:=λσ H R=>ta σ H λvs H1=>∃j:Int,vs=[.int j]/\-(2 ^ 62)<=j/\j<2 ^ 62/\R (y8 0 j.toNat) H1
theorem Ml (d:Gl X "range")(hm:X.mg "range"=Z8)(ha:PA X [a] e)(hs:eo [a] X.env=[(Z6,eval a X.env)]:=by rfl):PI X tg (.Call (.Name "range" p) [a] [] pos) (Mj e):=by
 intro b s f H R I h;refine Call_ (z56 I d hm boot_range (PyProof.Rows.callWith_type1 (aI (ha pos b s f H _ I h) λl m ⟨n,o,g,i,c⟩=>?_) hs rfl));obtain⟨j,rfl,c,k,q⟩:=c;cases i with
 |cons r rr=>cases rr;obtain⟨t,rfl⟩:=r;exact call_range_1 (zfz g (by omega) (by omega) c k (by simpa using q))
def BM (wi:TI)(g:TG)(tb:TS):TS:=λD σ H=>wi σ H λJ H1=>∃W:Nat->Nat->St->Hp->Prop,(∃m,W 0 m σ H1)/\∀i m σ H,W i m σ H->(J.stop i H/\D.nx σ H)\/(J.go i H/\∃N:St->Hp->Prop,(∀σ' H',N σ' H'->∃m',m'<m/\W (i+1) m' σ' H')/\∀x H',J.jO i H x H'->g x σ H' λwo H2=>tb {D with nx:=N,ct:=N,bk:=D.nx} wo H2)
def z6s (fp:List Addr)(h:Heap):List (Addr×Obj):=fp.filterMap λb=>(h.get? b).map λo=>(b,o)
theorem uK (hb:b∈a)(e:h.get? b=Z9 o):(b,o)∈z6s a h:=jt.mpr ⟨b,hb,by rw[e];rfl⟩
theorem Mm (a:p∈z6s c h):p.1∈c/\h.get? p.1=Z9 p.2:=by
 obtain⟨b,hb,e⟩:=jt.mp a;cases q:h.get? b with
 |none=>rw[q]at e;cases e
 |some o=>rw[q]at e;have d:=vn e;subst d;exact⟨hb,q⟩
theorem Inv.pinned (I:Inv X a g H s)(hf:∀b∈c,FpOk X a H b)(ho:∀b∈c,∃o,s.heap.get? b=Z9 o/\∀v,o.data≠.cell v):Inv X (a++z6s c s.heap) g H s:=I.eJ λp h=>(d9.mp h).elim (λz=>I.pin p (ax _ z)) λz=>by obtain⟨hb,e⟩:=Mm z;obtain⟨i,j,k,_⟩:=hf p.1 hb;obtain⟨o,f,d⟩:=ho p.1 hb;rw[e]at f;cases f;exact⟨e,i,j,k,d⟩
theorem Inv.cE (I:Inv X (a++pl) b H s):Inv X a b H s:=I.eJ λp c=>I.pin p (ax _ (fh _ c))
theorem zi2 (C:g6 (model X.prog X.w) X.A X.env X.xe)(U:X.calm=Z7)(hi:PI X tg y wi)(hg:PG X tg g)(hb:PSs X E tb)
  (hs:∀x,gm y X.env x=pure x:=by intro _;rfl):PS X (.For tg y E [] pos) (BM wi g tb):=by
 intro a s V H D I h;refine wpAny_For (aI (hi a s V H _ I h) λv s1 h1=>aI h1 λwm s2 h2=>?_) hs;obtain⟨it,F,tn,J,H2,rfl,I2,T,P,Y,W,⟨m0,w0⟩,G⟩:=h2;have j:∀{t:Hp},(∀b∈F,t b=Z8)->∀b∈F,FpOk X a t b:=λhn b hb=>⟨hn b hb,(Y b hb).2⟩;refine codeAny_forLoop_any (λn s'=>∃i k t,Inv X a k t s'/\tn i s'.heap/\(∀b∈F,t b=Z8)/\W i n k t) ?_ m0 ⟨0,V,H2,I2,P,λb hb=>(Y b hb).1,w0⟩
 rintro n s3 ⟨i,lJ,O,I3,K,L,w3⟩
 rcases G i n lJ O w3 with⟨stop,qn⟩|⟨go,N,hN,step⟩
 .refine i9 C (aI (T.done X rfl rfl rfl U i a s3 lJ O X.xe I3 (j L) K stop) λr s4 ⟨hr,I4⟩=>?_);subst hr;exact mn ⟨lJ,O,I4,qn⟩
 .refine i9 C (aI (T.item X rfl rfl rfl U i a s3 lJ O X.xe I3 (j L) K go) λr s4 ⟨u,hr,h4⟩=>?_);subst hr;refine i9 C (aI h4 λ_ s5 ⟨x,H5,I5,r5,y5,B,Q⟩=>?_);refine i9 C (aI (hg _ s5 lJ H5 x u _ (I5.pinned (j Q) (T.obj _ _ B)) r5 (step x H5 y5)) λ_ s6 ⟨R,H6,I6,q6⟩=>?_);refine i9 C (aI (hb _ s6 R H6 _ I6 q6) λf S z=>?_);have l:∀{c:St} {p:Hp},Inv X (a++z6s F s5.heap) c p S->N c p->∃m,m<n/\∃i k t,Inv X a k t S/\tn i S.heap/\(∀b∈F,t b=Z8)/\W i m k t:=λ{c p} q M=>by obtain⟨m',hm,w7⟩:=hN c p M;refine⟨m',hm,i+1,c,p,q.cE,T.keep _ _ _ B λb hb o e=>(q.pin (b,o) (ax _ (ax _ (uK hb e)))).1,λb hb=>?_,w7⟩;obtain⟨o,e,d⟩:=T.obj _ _ B b hb;exact(q.pin (b,o) (ax _ (ax _ (uK hb e)))).2.1
  cases f with
  |next=>obtain⟨c,p,q,M⟩:=z;exact l q M
  |cont=>obtain⟨c,p,q,M⟩:=z;exact l q M
  |brk=>obtain⟨c,p,q,z⟩:=z;exact⟨c,p,q.cE,z⟩
  |ret v=>obtain⟨x7,c,p,q,r7,z⟩:=z;exact⟨x7,c,p,q.cE,r7,z⟩
end
abbrev R2:=V->V->Hp->VK->Prop
def OpR (X:Cx)(f:Value->Value->Sem Value)(r:R2):Prop:=∀(pins:List (Addr×Obj)) (s:ak) (σ:St) (H:Hp) (x y:V) (v u:Value) (Q:VK),Inv X pins σ H s->RelV x v->RelV y u->r x y H Q->wpAny (model X.prog X.w) X.A (f v u) (EP X pins σ Q) X.xe s
def CallR (X:Cx)(f:Value)(r:List V->Hp->VK->Prop):Prop:=∀(pins:List (Addr×Obj)) (s:ak) (σ:St) (H:Hp) (xs:List V) (us:List Value) (Q:VK),Inv X pins σ H s->Vals xs us->r xs H Q->wpAny (model X.prog X.w) X.A (call f us) (EP X pins σ Q) X.xe s
def BN (X:Cx)(r:V->Hp->(Bool->Hp->Prop)->Prop):Prop:=∀(pins:List (Addr×Obj)) (s:ak) (σ:St) (H:Hp) (x:V) (v:Value) (Q:Bool->Hp->Prop),Inv X pins σ H s->RelV x v->r x H Q->wpAny (model X.prog X.w) X.A (u1 v) (TP X pins σ Q) X.xe s
def wq (r:R2)(ta tb:TE):TE:=λσ H Q=>ta σ H λx H1=>tb σ H1 λy H2=>r x y H2 Q
def rI (C:Int->Int->Prop)(g:Int->Int->V):R2:=λx y H Q=>∃i j,x=.int i/\y=.int j/\C i j/\Q (g i j) H
def kP (g:Int->Int->V):R2:=λx y H Q=>∃i j,x=.int i/\y=.int j/\Q (g i j) H
section
variable {X:Cx}{a b c:Expr}{ta tb tc:TE}{pos:Pos}
theorem binT (ha:PE X a ta)(hb:PE X b tb){R:V->V->Hp->Prop}(I:Inv X pins d H s)
  (h:ta d H λx j=>tb d j λy c=>R x y c) {f:Value->Value->Sem Value}
  (hf:∀v u i x y c,Inv X pins d c i->RelV x v->RelV y u->R x y c->wpAny (model X.prog X.w) X.A (f v u) Q X.xe i):
  wpAny (model X.prog X.w) X.A (eval a X.env) (λv e=>wpAny (model X.prog X.w) X.A (eval b X.env) (λu g=>wpAny (model X.prog X.w) X.A (f v u) Q X.xe g) X.xe e) X.xe s:=by
 exact aI (ha pins s d H _ I h) λv k ⟨x,j,l,m,n⟩=>aI (hb pins k d j _ l n) λu i ⟨y,c,o,p,q⟩=>hf v u i x y c o m p q
theorem Mn (ho:OpR X (iq op) r)(ha:PE X a ta)(hb:PE X b tb):PE X (.BinOp a op b pos) (wq r ta tb):=by intro c s d H Q I h;exact wpAny_BinOp (binT ha hb I h λv u e x y f g i j q=>ho c e d f x y v u Q g i j q)
theorem opI {g:Int->Int->Int}
  (a:∀i j t u s Q E,C i j->Q (.int (g i j) s.toks) {s with toks:=s.toks+1}->wpAny (model X.prog X.w) X.A (f (.int i t) (.int j u)) Q E s):
  OpR X f (rI C λi j=>.int (g i j)):=by
 rintro b s k H x y v u Q I c d ⟨i,j,rfl,rfl,e,q⟩
 obtain⟨t,rfl⟩:=c;obtain⟨h,rfl⟩:=d;exact a i j t h s _ _ e ⟨.int (g i j),H,I.tok _,⟨_,rfl⟩,q⟩
theorem opI0 {g:Int->Int->Int}
  (a:∀i j t u s Q E,Q (.int (g i j) s.toks) {s with toks:=s.toks+1}->wpAny (model X.prog X.w) X.A (f (.int i t) (.int j u)) Q E s):
  OpR X f (kP λi j=>.int (g i j)):=by
 rintro b s h H x y v u Q I c d ⟨i,j,rfl,rfl,q⟩
 obtain⟨t,rfl⟩:=c;obtain⟨e,rfl⟩:=d;exact a i j t e s _ _ ⟨.int (g i j),H,I.tok _,⟨_,rfl⟩,q⟩
theorem opB0 {g:Int->Int->Bool}
  (a:∀i j t u s Q E,Q (.bool (g i j)) s->wpAny (model X.prog X.w) X.A (f (.int i t) (.int j u)) Q E s):
  OpR X f (kP λi j=>.bl (g i j)):=by
 rintro b s h H x y v u Q I c d ⟨i,j,rfl,rfl,q⟩
 obtain⟨t,rfl⟩:=c;obtain⟨e,rfl⟩:=d;exact a i j t e s _ _ ⟨.bl (g i j),H,I,rfl,q⟩
def BO (i j:Int):Prop:=0<=j/\j<=1000000/\i.natAbs<2 ^ 64
def rG (i j:Int):Prop:=(-(2 ^ 64)<i/\i<2 ^ 64)\/(-(2 ^ 64)<j/\j<2 ^ 64)
theorem rG.ok (h:rG i j):IntMulOk i j:=by
 rcases h with⟨a,b⟩|⟨a,b⟩
 .exact .of_left (intBits_le_64 a b)
 .exact .of_right (intBits_le_64 a b)
theorem Mo:OpR X (iq .Add) (kP λi j=>.int (i+j)):=opI0 λ_ _ _ _ _ _ _ q=>add_int q
theorem Mp:OpR X (iq .Sub) (kP λi j=>.int (i-j)):=opI0 λ_ _ _ _ _ _ _ q=>sub_int q
theorem Mq:OpR X (iq .Mult) (rI rG λi j=>.int (i*j)):=opI λ_ _ _ _ _ _ _ a q=>mul_int q a.ok
theorem Mr:OpR X (iq .Mod) (rI (λ_ j=>0<j) λi j=>.int (i%j)):=opI λi j _ _ _ _ _ a q=>by exact mod_int' (by omega) (by rw[Int.fmod_eq_emod_of_nonneg i (by omega)];exact q)
theorem Mt:OpR X (iq .Pow) (rI BO λi j=>.int (i ^ j.toNat)):=opI λ_ _ _ _ _ _ _ a q=>pow_int_small a.1 a.2.1 a.2.2 q
end
section
variable {X:Cx}{a b c:Expr}{ta tb tc:TE}{pos:Pos}
theorem Mu:OpR X (er .Lt) (kP λi j=>.bl (decide (i<j))):=opB0 λ_ _ _ _ _ _ _ q=>lt_int q
theorem Mv:OpR X (er .LtE) (kP λi j=>.bl (decide (i<=j))):=opB0 λ_ _ _ _ _ _ _ q=>le_int q
theorem Mw:OpR X (er .Gt) (kP λi j=>.bl (decide (j<i))):=opB0 λ_ _ _ _ _ _ _ q=>gt_int q
theorem OpR.or (h:OpR X f r)(e:OpR X f g):OpR X f (λx y H Q=>r x y H Q\/g x y H Q):=by
 intro a s b H x y v u Q I c d q;rcases q with q|q
 .exact h a s b H x y v u Q I c d q
 .exact e a s b H x y v u Q I c d q
theorem Mx (ho:OpR X (er op) r)(ha:PE X a ta)(hb:PE X b tb)(hm:km op b=Z6):PE X (.Compare a [op] [b] pos) (wq r ta tb):=by intro c s d H Q I h;exact wpAny_Compare1 (binT ha hb I h λv u e x y f g i j q=>ho c e d f x y v u Q g i j q) hm
def BP (t:TE):TT:=λσ H Q=>t σ H λx H'=>∃k,x=.bl k/\Q k H'
theorem My (ho:OpR X (er op) r)(ha:PE X a ta)(hb:PE X b tb)(hm:km op b=Z6):PT X (.Compare a [op] [b] pos) (BP (wq r ta tb)):=by intro d s f H Q I h;refine wpAny_isTrue_Compare1 (aI (ha d s f H _ I h) λv g ⟨x,i,j,l,m⟩=>aI (hb d g f i _ j m) λu n ⟨y,o,p,q,t⟩=>aI (ho d n f o x y v u _ p l q t) λc C ⟨z,w,A,r3,k,e,B⟩=>?_) hm;subst e;cases r3;exact gg ⟨w,A,B⟩
def y9 (r r':R2)(ta tb tc:TE):TE:=λσ H Q=>ta σ H λx H1=>tb σ H1 λy H2=>r x y H2 λz H3=>∃k,z=.bl k/\(if k=Z7 then tc σ H3 λw' H4=>r' y w' H4 Q else Q (.bl Z6) H3)
theorem zge {op op':CmpOp}{r r':R2}(ho:OpR X (er op) r)(ho':OpR X (er op') r')(ha:PE X a ta)(hb:PE X b tb)(hc:PE X c tc)
  (hm:o7 [op,op'] [b,c]=false:=by with_unfolding_all rfl):PE X (.Compare a [op,op'] [b,c] pos) (y9 r r' ta tb tc):=by
 intro pins s σ H Q I h;refine Compare_chain (aI (ha pins s σ H _ I h) λv s1 ⟨x,H1,I1,r1,q1⟩=>chain_link (aI (hb pins s1 σ H1 _ I1 q1) λu s2 ⟨y,H2,I2,r2,q2⟩=>aI (ho pins s2 σ H2 x y v u _ I2 r1 r2 q2) λd s3 ⟨z,H3,I3,r3,k,e,q3⟩=>?_)) hm;subst e;cases r3;refine gg ?_;cases k with
 |false=>exact ite_ff ⟨.bl Z6,H3,I3,rfl,q3⟩
 |true=>exact ite_tt (chain_last (aI (hc pins s3 σ H3 _ I3 q3) λw' s4 ⟨z',H4,I4,r4,q4⟩=>ho' pins s4 σ H4 y z' u w' Q I4 r2 r4 q4))
theorem zfe {op op':CmpOp}{r r':R2}(ho:OpR X (er op) r)(ho':OpR X (er op') r')(ha:PE X a ta)(hb:PE X b tb)(hc:PE X c tc)
  (hm:o7 [op,op'] [b,c]=false:=by with_unfolding_all rfl):PT X (.Compare a [op,op'] [b,c] pos) (BP (y9 r r' ta tb tc)):=by
 intro pins s σ H Q I h;refine isTrue_chain (aI (ha pins s σ H _ I h) λv s1 ⟨x,H1,I1,r1,q1⟩=>test_link (aI (hb pins s1 σ H1 _ I1 q1) λu s2 ⟨y,H2,I2,r2,q2⟩=>aI (ho pins s2 σ H2 x y v u _ I2 r1 r2 q2) λd s3 ⟨z,H3,I3,r3,k,e,q3⟩=>?_)) hm;subst e;cases r3;refine gg ?_;cases k with
 |false=>obtain⟨k',e',q'⟩:=q3;cases e';exact ite_ff ⟨H3,I3,q'⟩
 |true=>refine ite_tt (test_last (aI (hc pins s3 σ H3 _ I3 q3) λw' s4 ⟨z',H4,I4,r4,q4⟩=>aI (ho' pins s4 σ H4 y z' u w' _ I4 r2 r4 q4) λd' s5 ⟨z2,H5,I5,r5,k2,e2,q5⟩=>?_));subst e2;cases r5;exact gg ⟨H5,I5,q5⟩
def rH (K:Z5)(x:V)(H:Hp)(k:Bool):Prop:=
 match x with
 |.bU=>k=Z6
 |.bl b=>k=b
 |.int i=>k=(i != 0)
 |.str y=>y.length<=bf/\k=((y.length:Int) != 0)
 |.ref p=>(∃xs,SqL K H p xs/\k=!xs.isEmpty)\/(∃xs,cL K H p xs/\k=!xs.isEmpty)\/∃kvs,H p=Z9 (.dK kvs)/\k=!kvs.isEmpty
 |_=>False
theorem Mz (r:KV kvs vs):(!vs.isEmpty)=!kvs.isEmpty:=by cases r<;>rfl
theorem GG (r:Vals xs its):(!its.toArray.isEmpty)=!xs.isEmpty:=by cases r<;>simp
theorem rJ:(bf:Nat)<2 ^ 63:=by rw[fj];decide
theorem GH:BN X (λx H Q=>∃k,rH X.K x H k/\Q k H):=by
 rintro g s o H x v Q I d ⟨k,e,q⟩
 have hl:=rJ;cases x with
 |bU=>cases d;have a:=e;subst a;exact truthy_none ⟨H,I,q⟩
 |bl b=>cases d;have a:=e;subst a;exact gg ⟨H,I,q⟩
 |int i=>obtain⟨t,rfl⟩:=d;have a:=e;subst a;exact PySem.P.truthy_int ⟨H,I,q⟩
 |str y=>obtain⟨t,rfl⟩:=d;obtain⟨u,rfl⟩:=e;exact PySem.P.truthy_str (by omega) ⟨H,I.tok _,q⟩
 |ref p=>
  cases d;have a:=e;rcases a with⟨j,hx,a⟩|⟨j,hx,a⟩|⟨l,hx,a⟩
  .subst a;obtain⟨f,r,pl,h⟩:=I.list hx;have c:=r.length;exact wpAny_truthy_list pl.isList (by grind) ⟨H,I.tok _,by rw[GG r];exact q⟩
  .subst a;obtain⟨f,r,pl,h⟩:=I.tuple hx;have c:=r.length;exact truthy_tuple pl (by grind) ⟨H,I.tok _,by rw[GG r];exact q⟩
  .subst a;obtain⟨h,n,w,r,m⟩:=I.hok p _ hx;have c:=Paired.length r;exact wpAny_truthy_dict n m (by omega) ⟨H,I.tok _,by rw[Mz r];exact q⟩
 |_=>exact e.elim
theorem zfk (ha:PE X a ta)(f:∀b,qj a X.env b=(do let v <-b;ux a.pos;tz [v] (u1 v))):
  PT X a (λd H Q=>ta d H λx e=>∃k,rH X.K x e k/\Q k e):=by
 intro c s d H Q I h;exact isTrue_plain (aI (ha c s d H _ I h) λv g ⟨x,i,j,l,m⟩=>GH c g d i x v Q j l m) (f _)
theorem MA:OpR X (iq .Add) (λx y H Q=>∃i j,x=.str i/\y=.str j/\i.length+j.length<=bf/\Q (.str (i++j)) H):=by
 rintro a s f H x y v u Q I b c ⟨i,j,rfl,rfl,d,q⟩
 obtain⟨t,rfl⟩:=b;obtain⟨e,rfl⟩:=c;exact add_str (λe g=>⟨.str (i++j),H,I.tok _,⟨_,rfl⟩,q⟩) d
theorem vals1 (r:Vals [x] us):∃u,us=[u]/\RelV x u:=by
 cases r with
 |cons a b=>cases b;exact⟨_,rfl,a⟩
theorem vals2 (r:Vals [x,y] us):∃u a,us=[u,a]/\RelV x u/\RelV y a:=by
 cases r with
 |cons b c=>
  cases c with
  |cons r3 r4=>cases r4;exact⟨_,_,rfl,b,r3⟩
theorem MB (d:X.calm=Z7):CallR X (.builtin "max") (λb H Q=>∃i j,b=[.int i,.int j]/\Q (.int (if j>i then j else i)) H):=by
 rintro c s e H b f Q I r ⟨i,j,rfl,q⟩
 obtain⟨u,g,rfl,⟨t,rfl⟩,h,rfl⟩:=vals2 r;refine max_two_ints (I.ok.hd d) λl m k=>⟨_,H,I.kept k,?_,q⟩;by_cases a:j>i
 .rw[vh a,vh a];exact⟨_,rfl⟩
 .rw[vm a,vm a];exact⟨_,rfl⟩
end
structure wt (h:Heap)(x dx C:Addr)(mA:Str->Option Value):Prop where
 obj:h.get? x=Z9 (W.instObj C dx)
 ns:h.Ns1 dx mA
 ne:dx≠x
theorem MC {h:Heap}(n:h.Ns1 d f):∃od,h.get? d=Z9 od/\∀b,W.lookIn b od=Z9 (f b):=by
 obtain⟨o,es,ep,ho,hd,hk,_,hm⟩:=n;refine⟨o,ho,λb=>?_⟩;have e:=hm b;unfold nsFind findBy at e;rw[<-Array.find?_toList]at e;unfold W.lookIn;rw[hd]
 dsimp only
 split
 .rename_i y q;rw[q]at e;exact congrArg Z9 e
 .rename_i q;rw[q]at e;have a:es.toList.any (·.refKey)=false:=by rw[List.any_eq_false];intro y g;obtain⟨z,t,c⟩:=hk y (Array.mem_toList_iff.mp g);simp[DictEntry.refKey,c]
  rw[vm (a▸cv)];exact congrArg Z9 e
theorem wt.look (I:wt h x b C c):∃od,W.InstAt h x (W.instObj C b) C (Z9 od)/\∀a,W.lookIn a od=Z9 (c a):=
 let⟨od,ho,hl⟩:=MC I.ns
 ⟨od,⟨I.obj,rfl,rfl,ho⟩,hl⟩
theorem eO.some_of (r:eO (Z9 v) o):∃u,o=Z9 u/\RelV v u:=by
 cases o with
 |none=>exact r.elim
 |some u=>exact⟨u,rfl,r⟩
theorem eO.none_of (r:eO Z8 o):o=none:=by
 cases o with
 |none=>rfl
 |some u=>exact r.elim
structure GI (K:Z5)(C:Addr):Prop where
 pg:W.plainGet K C Str.empty=Z7
 hd:W.hasDictIn K C=Z7
 po:W.plainOver K C=Z7
 sa:W.findIn K (.ref C) "__setattr__"=Z9 (Z9 (.builtin "object.__setattr__"))
theorem GI.get {K:Z5}(c:GI K C)(f:Str):W.plainGet K C f=true:=c.pg
section
variable {X:Cx}{pins:List (Addr×Obj)}{σ:St}{H:Hp}{s:ak}{A:fq}{E:Value->ak->Prop}{Q:Value->ak->Prop}{c:Value}{b:Bool}
inductive TyOf (K:Z5)(H:Hp):V->Value->Prop where
 |bU:TyOf K H .bU (.type "NoneType")
 |bl (x:Bool):TyOf K H (.bl x) (.type "bool")
 |int (i:Int):TyOf K H (.int i) (.type "int")
 |str (x:Str):TyOf K H (.str x) (.type "str")
 |lst {a:Addr} {xs:List V} (e:H a=Z9 (.lst xs)):TyOf K H (.ref a) (.type "list")
 |eP {a:Addr} {o:Obj} {xs:List V} (e:H a=Z9 (.eP o (.lst xs))):TyOf K H (.ref a) (.type "list")
 |tup {a:Addr} {xs:List V} (e:H a=Z9 (.tup xs)):TyOf K H (.ref a) (.type "tuple")
 |dK {a:Addr} {kvs:List (Key×V)} (e:H a=Z9 (.dK kvs)):TyOf K H (.ref a) (.type "dict")
theorem z2c (I:Inv X pins σ H s)(rx:RelV x u)(ty:TyOf X.K H x t)(e:W.kitOne X.K t c=Z9 b)(h:∀tk,Q (.bool b) {s with toks:=tk}):
  wpAny (model X.prog X.w) A (call (.builtin "isinstance") [u,c]) Q E s:=by
 cases ty with
 |bU=>cases rx;exact W.kia_one W.kitx_none I.eY True.intro e (λz=>nomatch z) h
 |bl y=>cases rx;exact W.kia_one W.kitx_bool I.eY True.intro e (λz=>nomatch z) h
 |int i=>obtain⟨t,q⟩:=rx;cases q;exact W.kia_one W.kitx_int I.eY True.intro e (λz=>nomatch z) h
 |str y=>obtain⟨t,q⟩:=rx;cases q;exact W.kia_one W.kitx_str I.eY True.intro e (λz=>nomatch z) h
 | @lst a xs ea=>cases rx;obtain⟨_,_,n,_,h1⟩:=(I.hok a _ ea);exact W.kia_one W.kitx_list I.eY ⟨_,h1,rfl⟩ e (λz=>nomatch z) h
 | @eP a ob xs ea=>cases rx;obtain⟨_,_,_,n,_,h1⟩:=(I.hok a _ ea);exact W.kia_one W.kitx_list I.eY ⟨_,h1,rfl⟩ e (λz=>nomatch z) h
 | @tup a xs ea=>cases rx;obtain⟨_,_,_,p⟩:=(I.hok a _ ea);obtain⟨o,h1,h2,_⟩:=p.tup;exact W.kia_one W.kitx_tuple I.eY ⟨o,h1,h2⟩ e (λz=>nomatch z) h
 | @dK a kvs ea=>cases rx;obtain⟨_,_,vs,_,p⟩:=(I.hok a _ ea);obtain⟨o,es,ep,h1,h2,_⟩:=p;exact W.kia_one W.kitx_dict I.eY ⟨o,h1,h2.1⟩ e (λz=>nomatch z) h
end
structure Room (k:Nat)(A:fq):Prop where
 hd:A.handled=Z8
 dp:A.depth+3*k+5<recursionLimit
 un:A.units+16*k+200<cLine
theorem Room.mono (r:Room k A)(h:j<=k):Room j A:=⟨r.hd,by have:=r.dp;omega,by have:=r.un;omega⟩
theorem Room.deeper (r:Room (k+1) A)(env:Env):Room k (A.deeper env):=⟨r.hd,by have:=r.dp;show A.depth+1+3*k+5<_;omega,by have:=r.un;show A.units+3+16*k+200<_;omega⟩
theorem Room.in1 (r:Room (k+1) A):Room k A.in1:=⟨r.hd,by have:=r.dp;show A.depth+3*k+5<_;omega,by have:=r.un;show A.units+1+16*k+200<_;omega⟩
theorem Room.depth (r:Room k A):A.depth<recursionLimit:=by have:=r.dp;omega
theorem Room.units (r:Room k A):A.units+64<cLine:=by have:=r.un;omega
def wu:TA:=λ_ H Q=>Q [] H
def BQ (ta:TE)(tr:TA):TA:=λσ H Q=>ta σ H λx H1=>tr σ H1 λxs H2=>Q (x::xs) H2
section
variable {X:Cx}{e:Expr}{es:List Expr}{te:TE}{t:TA}{pos:Pos}
theorem rK:PA X [] wu:=λ_ _ _ _ H Q I h=>Calls.spliced_nil ⟨[],H,I,.nil,h⟩
theorem za (ha:PE X e te)(hr:PA X es t)(hs:eo (e::es) X.env=(Z6,eval e X.env)::eo es X.env:=by rfl):PA X (e::es) (BQ te t):=by intro pos a s b H Q I h;rw[hs];refine ny (aI (ha a s b H _ I h) λu c ⟨x,d,f,g,i⟩=>?_);exact aI (hr pos a c b d _ f i) λo p ⟨j,k,l,m,n⟩=>⟨x::j,k,l,.cons g m,n⟩
def BS (t:TA):TE:=λσ H Q=>t σ H λxs H1=>xs.length<=bf/\∀p,H1 p=Z8->Q (.ref p) (upd H1 p (.tup xs))
def BU (t:TA):TE:=λσ H Q=>t σ H λxs H1=>xs.length<=bf/\∀p,H1 p=Z8->Q (.ref p) (upd H1 p (.lst xs))
theorem MD {f}(h:PA X es t):PE X (.Tuple es f pos) (BS t):=by intro a s g H Q I i;refine wpAny_Tuple_spliced (aI (h pos a s g H _ I i) λj c ⟨k,l,d,r,z,q⟩=>⟨by rw[<-r.length];exact z,?_⟩);refine⟨.ref c.heap.objs.size,upd l c.heap.objs.size (.tup k),d.laid (λb u e=>af _ e) (ah _) ?_,rfl,q _ (d.hok.fresh (ah _))⟩;exact⟨z,j,r,⟨_,b6 _ rfl⟩⟩
theorem ME (h:PA X es t):PE X (.List es pos) (BU t):=by intro a s f H Q I g;refine wpAny_List_spliced (aI (h pos a s f H _ I g) λi c ⟨j,k,d,r,z,q⟩=>⟨by rw[<-r.length];exact z,?_⟩);refine⟨.ref c.heap.objs.size,upd k c.heap.objs.size (.lst j),d.laid (λb u e=>af _ e) (ah _) ?_,rfl,q _ (d.hok.fresh (ah _))⟩;exact⟨z,i,0,r,b6 _ rfl⟩
end
abbrev Sp:=List V->Hp->VK->XK->Prop
abbrev CXT:=List Env->Hp->ak->XK->Value->ak->Prop
structure jP (P:bu)(w:World)(K:Z5)(mg:Str->Option Value)(base:Heap)(A:fq)(outer:List Env)(s:ak)(H:Hp):Prop where
 frames:A.frames=Z9 outer
 mod:Mod K mg base
 bs:∀b o,base.get? b=Z9 o->s.heap.get? b=Z9 o/\H b=Z8
 iL:base.objs.size<=s.heap.objs.size
 cN:s.heap.FunFrames base outer
 nD:∀b∈frs outer,H b=Z8
 hok:HOk P w H s.heap
 bare:m5 s.gens
def CE (outer:List Env)(P:bu)(w:World)(H:Hp)(s:ak)(Q:VK)(u:Value)(s':ak):Prop:=∃v H',s'.os=s.os/\m5 s'.gens/\Un (frs outer) [] H H' s.heap s'.heap/\HOk P w H' s'.heap/\RelV v u/\Q v H'
def CR (CX:CXT)(outer:List Env)(P:bu)(w:World)(H:Hp)(s:ak)(Q:VK)(E:XK)(r:Result)(s':ak):Prop:=
 match r with
 |.ok (.ret u)=>CE outer P w H s Q u s'
 |.ok _=>False
 |.error e=>CX outer H s E e s'
structure FnOk (P:bu)(w:World)(K:Z5)(mg:Str->Option Value)(base:Heap)(CX:CXT)(k:Nat)(f:Addr)(fd:ko)(ps:List Str)(sp:Sp):Prop where
 len:∀vs H Q E,sp vs H Q E->vs.length=ps.length
 run:∀(A:fq) (outer:List Env) (s:ak) (H:Hp) (args:Args) (us:List Value) (vs:List V) (Q:VK) (E:XK),Room k A->jP P w K mg base A outer s H->rf s fd args (ps.zip us)->Vals vs us->sp vs H Q E->l8 (model P w) A (.call (.ref f) args) (CR CX outer P w H s Q E) s
theorem FnOk.mono {K:Z5}(F:FnOk P w K mg base CX j f fd ps sp)(h:j<=k): FnOk P w K mg base CX k f fd ps sp:=⟨F.len,λA outer s H args us vs Q E hr=>F.run A outer s H args us vs Q E (hr.mono h)⟩
theorem FnOk.imp {K:Z5}(F:FnOk P w K mg base CX k f fd ps sp)
  (h:∀vs H Q E,BV vs H Q E->sp vs H Q E):FnOk P w K mg base CX k f fd ps BV:=
 ⟨λvs H Q E q=>F.len vs H Q E (h _ _ _ _ q),λA outer s H args us vs Q E hr he hb hv hs=>F.run A outer s H args us vs Q E hr he hb hv (h _ _ _ _ hs)⟩
theorem jP.in1 {K:Z5}(e:jP P w K mg base A outer s H): jP P w K mg base A.in1 outer s H:=⟨e.frames,e.mod,e.bs,e.iL,e.cN,e.nD,e.hok,e.bare⟩
section
variable {X:Cx}{pins:List (Addr×Obj)}{σ:St}{H:Hp}{s s':ak}
theorem Inv.wx (I:Inv X pins σ H s):jP X.prog X.w X.K X.mg X.base X.A X.stack s H:=⟨I.ok.frames,I.ok.mod,I.bs,cc I.ok.iL I.sz,I.stack,I.fN,I.hok,I.bare⟩
theorem Inv.after (I:Inv X pins σ H s)(h:CE X.stack X.prog X.w H s Q u s'):EP X pins σ Q u s':=by obtain⟨v,c,os,bare,un,hok,r,q⟩:=h;obtain⟨e,g,d,t,a⟩:=s';obtain rfl:a=s.os:=os;exact⟨v,c,I.call un hok bare (λb z=>absurd z (by simp)),r,q⟩
end
def GJ (sp:Sp)(dvs:List V)(E:XK)(t:TA):TE:=λσ H Q=>t σ H λvs H1=>sp (vs++dvs) H1 Q E
def Binds (K:Z5)(fd:ko)(ps:List Str)(ds:List Value):Prop:=∀(s:ak) (us:List Value),K.In s.heap->(us++ds).length=ps.length->rf s fd ⟨us,[]⟩ (ps.zip (us++ds))
theorem Binds.all {K:Z5}(h:∀a,a.length=ps.length->u4 fd ⟨a,[]⟩=pure (ps.zip a)):Binds K fd ps []:=λs a _ hl=>by rw[e9]at hl ⊢;exact .of_eq (h a hl)
def zc8 (CX:CXT)(X:Cx)(E:XK):Prop:=∀(pins:List (Addr×Obj)) (σ:St) (H:Hp) (s:ak) (e:Value) (s':ak),Inv X pins σ H s->CX X.stack H s E e s'->X.xe e s'
section
variable {X:Cx}{CX:CXT}{k:Nat}{f C:Addr}{fd:ko}{ps:List Str}{sp:Sp}{dvs:List V}{ds:List Value}{E:XK}{x m:Str}{p pos apos:Pos}{e o:Expr}{es:List Expr}{ta:TE}{t:TA}
theorem zna (F:FnOk X.prog X.w X.K X.mg X.base CX k f fd ps sp)(hr:Room k X.A)(hb:Binds X.K fd ps ds)(hd:Vals dvs ds)(hx:zc8 CX X E)
  (I:Inv X a d H s) (r:Vals g c) (h:sp (g++dvs) H Q E):wpAny (model X.prog X.w) X.A (call (.ref f) c) (EP X a d Q) X.xe s:=by
 have i:=r.append hd;refine wpAny_call (py (F.run X.A X.stack s H ⟨c,[]⟩ (c++ds) (g++dvs) Q E hr I.wx (hb s c I.eY (i.length▸F.len _ _ _ _ h)) i h) λr j b=>?_);cases r with
 |error e=>exact hx a d H s e j I b
 |ok l=>
  cases l with
  |ret u=>exact I.after b
  |next=>exact False.elim b
  |brk=>exact False.elim b
  |cont=>exact False.elim b
theorem zj5 (F:FnOk X.prog X.w X.K X.mg X.base CX k f fd ps sp)(hr:Room k X.A)(g:Gl X x)(hm:X.mg x=Z9 (.ref f))(hk:W.keepIn X.K (.ref f)=Z7)(hb:Binds X.K fd ps ds)(hd:Vals dvs ds)(hx:zc8 CX X E)
  (ha:PA X (e::es) t) (b:VI x:=by decide) (i:eo (e::es) X.env=(Z6,eval e X.env)::eo es X.env:=by rfl) (c:(kj pos (eo es X.env)).any (·.1)=false:=by rfl):
  PE X (.Call (.Name x p) (e::es) [] pos) (GJ sp dvs E t):=by
 intro a s j H Q I h;refine i0 (z3m I g hm ?_ b);refine W.callWith_K I.ok.mod.uI hk (aI (ha pos a s j H _ I h) λl m ⟨n,o,d,r,q⟩=>⟨d.eY,?_⟩) i c;exact zna F hr hb hd hx d r q
structure Mk (K:Z5)(C f:Addr):Prop where
 makes:W.makesIn K C=Z7
 init:W.findIn K (.ref C) "__init__"=Z9 (Z9 (.ref f))
 fn:W.isFn K (.ref f)=Z7
 kp:W.keepIn K (.ref C)=Z7
end
def PK (X:Cx)(MF:List m6)(t:TA):Prop:=∀(pos:Pos) (pins:List (Addr×Obj)) (s:ak) (σ:St) (H:Hp) (Q:List V->Hp->Prop),Inv X pins σ H s->t σ H Q->wpAny (model X.prog X.w) X.A (evalAll ((t5 pos (og MF X.env)).map (·.2))) (AP X pins σ Q) X.xe s
structure FnScope (N P:List Str)(sc:Scope):Prop where
 kind:sc.kind=.function
 co:sc.isCoroutine=Z6
 gen:sc.isGenerator=Z6
 nd:N.Nodup
 pre:N.take P.length=P
 par:∀x∈P,sc.names.lookup x=Z9 .local\/sc.names.lookup x=Z9 .cell
 rL:∀y∈sc.names,y.2≠.free
theorem GK {a:Str->Option i3}:∀{binds:List (Str×Value)} {m:Str->Option Value},(∀v,(x,v)∉binds)->bindL a binds m x=m x
 | [],_,_=>rfl
 |(n,v)::r,m,h=>by
  unfold bindL;rw[GK λw b=>h w (ba _ b)];split
  .have :x≠n:=by rintro rfl;exact h v a8
   simp[this]
  .rfl
theorem GL {a:Str->Option i3}:∀{binds:List (Str×Value)} {m:Str->Option Value},(∀v,(x,v)∉binds)->bindC a binds m x=m x
 | [],_,_=>rfl
 |(n,v)::r,m,h=>by
  unfold bindC;rw[GL λw b=>h w (ba _ b)];split
  .rfl
  .have :x≠n:=by rintro rfl;exact h v a8
   simp[this]
theorem z6w {a:Str->Option i3}:∀{P:List Str} {b:List Value} {i:Nat} {m:Str->Option Value},P.Nodup->P[i]?=Z9 x->b[i]?=Z9 v->a x=Z9 .local->
  bindL a (P.zip b) m x=Z9 v
 | [],_,_,_,_,h,_,_=>by simp at h
 |_::_,[],_,_,_,_,h,_=>by simp at h
 |p::P,w::b,0,m,nd,c,d,hk=>by simp at c d;subst c;subst d;show bindL a ((p,w)::P.zip b) m p=_;unfold bindL;rw[GK λv e=>(cy.mp nd).1 (kr e).1,vh hk];simp
 |p::P,w::b,i+1,m,nd,c,d,hk=>by show bindL a ((p,w)::P.zip b) m x=_;exact z6w (cy.mp nd).2 (by simpa using c) (by simpa using d) hk
theorem z6z {a:Str->Option i3}:∀{P:List Str} {b:List Value} {i:Nat} {m:Str->Option Value},P.Nodup->P[i]?=Z9 x->b[i]?=Z9 v->a x≠Z9 .local->
  bindC a (P.zip b) m x=Z9 v
 | [],_,_,_,_,h,_,_=>by simp at h
 |_::_,[],_,_,_,_,h,_=>by simp at h
 |p::P,w::b,0,m,nd,c,d,hk=>by simp at c d;subst c;subst d;show bindC a ((p,w)::P.zip b) m p=_;unfold bindC;rw[GL λv e=>(cy.mp nd).1 (kr e).1,vm hk];simp
 |p::P,w::b,i+1,m,nd,c,d,hk=>by show bindC a ((p,w)::P.zip b) m x=_;exact z6z (cy.mp nd).2 (by simpa using c) (by simpa using d) hk
def start (N:List Str)(vs:List V):St:=vs.map Z9++b8 (N.length-vs.length) Z8
def fO (CX:CXT)(P:bu)(w:World)(K:Z5)(mg:Str->Option Value)(base:Heap)(N:List Str)(qual:Str)(scope:Scope)(f:Addr)(cd:Value)(A:fq)(outer:List Env)(s:ak)(H:Hp)(E:XK):Cx where
 prog:=P
 w:=w
 K:=K
 mg:=mg
 base:=base
 A:=A.deeper (qo qual scope s.heap.objs.size f cd)
 N:=N
 s₀:=s
 fL:=H
 env:=qo qual scope s.heap.objs.size f cd
 outer:=outer
 stack:=qo qual scope s.heap.objs.size f cd::outer
 ex:=[]
 calm:=Z7
 fn:=λ_=>Z7
 pn:=[]
 xe:=λe s'=>wpAny (model P w) (A.deeper (qo qual scope s.heap.objs.size f cd)) (t6 (qo qual scope s.heap.objs.size f cd) e) (λ_ nE=>CX outer H s E e nE) (λe' nE=>CX outer H s E e' nE) s'
theorem GN {sc:Scope}(h:sc.names.lookup x=Z9 .cell):∃c,(cellsFrom n sc.names []).lookup x=Z9 c:=by exact Option.isSome_iff_exists.mp (W.cellsFrom_some sc.names n [] (.inl h))
theorem zdf {K:Z5}
  (S:FnScope N ps scope) (hd:A.handled=Z8) (j:jP P w K mg base A outer s H) (hl:n.length=ps.length) (r:Vals n D)
  (x:InCallC s s.heap.objs.size (bindL (qo g scope s.heap.objs.size f cd).kindOf (ps.zip D) λ_=>Z8) (cellsFrom (s.heap.objs.size+1) scope.names []) (bindC (qo g scope s.heap.objs.size f cd).kindOf (ps.zip D) λ_=>Z8) F):
  Inv (fO G P w K mg base N g scope f cd A outer s H E) [] (start N n) H F:=by
 have I:=by have:=congrArg kz S.pre;rw[df]at this;omega
 obtain⟨B,J,rfl,hk⟩:=x.done;have l:∀b,b∉(fO G P w K mg base N g scope f cd A outer s H E).ex:=λb z=>absurd (show b∈([]:List Addr)from z) (by simp);refine⟨⟨j.mod,S.kind,rfl,rfl,ah _,λy z c B d=>?_,λy m=>?_,λy c _ h=>?_,λ_=>hd,Around.frames_deeper j.frames,.inr ⟨rfl,rfl⟩,λb z=>absurd z (l b),j.bs,j.iL,λb _ _=>l b,λb z=>absurd z (l b),j.cN,j.nD,λ_ _ z=>by cases z⟩,rfl,j.bare,Un.kept hk,⟨_,x.toInCall.ns,λi y v B d L=>?_⟩,λy c h=>⟨_,x.cell y c h⟩,j.hok.fresh (ah _),λy c h=>?_,λp o=>absurd (show p∈([]:List (Addr×Obj))from o) (by simp),j.hok.kept hk,?_,λ_ _ z=>by cases z⟩
 .exact name_of_addr x.apart (PySem.mem_of_lookup B) (PySem.mem_of_lookup d)
 .have m:scope.names.lookup y=Z9 .cell\/scope.names.lookup y=Z9 .free:=m;rcases m with m|m
  .exact GN m
  .exact absurd rfl (S.rL _ (PySem.mem_of_lookup m))
 .exact lg (x.above y c (PySem.mem_of_lookup h))
 .have C:i<n.length:=by
   unfold start at d;by_cases C:i<n.length
   .exact C
   .rw[dz (by simpa using C)]at d;rw[gj]at d;split at d<;>cases d
  have ha:n[i]?=Z9 v:=by
   unfold start at d;rw[fm (by simpa using C),a9]at d;cases e:n[i]? with
   |none=>rw[e]at d;cases d
   |some a=>rw[e]at d;cases d;rfl
  obtain⟨u,hu,rv⟩:=r.get ha;have o:ps[i]?=Z9 y:=by rw[<-S.pre,List.getElem?_take_of_lt (by omega)];exact B
  have t:ps.Nodup:=S.pre▸S.nd.sublist (t7 _ _);refine⟨u,rv,?_⟩;rcases S.par y (ck o)with k|k
  .exact .inl ⟨k,z6w t o hu k⟩
  .obtain⟨c,e⟩:=GN k;refine .inr ⟨.inl k,c,e,?_⟩;have q:=x.cell y c e;rw[z6z t o hu (by show scope.names.lookup y≠_;rw[k];decide)]at q;exact q
 .exact j.hok.fresh (lg (x.above y c (PySem.mem_of_lookup h)))
 .unfold start;show _=N.length;rw[ao,ae,ez];omega
theorem zis {K:Z5}{kV:Value}
  (M:K.lookup f=Z9 ⟨oc,od,.func (W.fnOf m a params g scope O kV C R an c ct),T⟩) (D:W.codeIn K c a=Z7) (S:FnScope N ps scope)
  (len:∀h H Q E,G h H Q E->h.length=ps.length)
  (j:∀A outer s H h Q E,Room k (A.deeper (qo a scope s.heap.objs.size f c))->G h H Q E->∃t,PSs (fO I P w K mg base N a scope f c A outer s H E) g t/\t {nx:=λ_ i=>Q .bU i,rt:=Q} (start N h) H):
  FnOk P w K mg base I (k+1) f (W.fnOf m a params g scope O kV C R an c ct) ps G:=by
 refine⟨len,λA outer s H args U h Q E hr p hb r z=>?_⟩;have L:=p.mod.uI.keeps λb o e=>(p.bs b o e).1
 have l:∀y∈ps.zip U,scope.names.lookup y.1=Z9 .local\/(scope.names.lookup y.1=Z9 .cell/\((cellsFrom (s.heap.objs.size+1) scope.names []).lookup y.1).isSome=Z7):=λ⟨n,v⟩ X=>by
  rcases S.par n (kr X).1 with q|q
  .exact .inl q
  .exact .inr ⟨q,W.cellsFrom_some _ _ _ (.inl q)⟩
 refine codeAny_call_function hr.depth (L _ _ M) rfl S.co S.gen rfl (W.codeRec_of L D) (hb _ _ _ _ ?_);refine wpAny_newFunctionEnv_cells S.kind l λenv Y s1 x=>?_;subst Y;refine⟨(p.mod.nolimit.keeps λb o e=>(p.bs b o e).1).keeps x.toInCall.keep,codeAny_func ?_⟩;obtain⟨t,ht,hq⟩:=j A outer s H h Q E (hr.deeper _) z;refine gk (ht [] s1 (start N h) H _ (zdf S hr.hd p (len _ _ _ _ z) r x) hq) (λfl F hs=>?_) λe F hs=>hs;have B:∀{d:St} {i:Hp} {v:V} {u:Value},Inv (fO I P w K mg base N a scope f c A outer s H E) [] d i F->RelV v u->Q v i->CE outer P w H s Q u F:=λ{d i v u} J rv q=>⟨v,i,J.os,J.bare,J.base,J.hok,rv,q⟩;cases fl with
 |ret u=>obtain⟨v,d,i,J,rv,q⟩:=hs;exact B J rv q
 |next=>obtain⟨d,i,J,q⟩:=hs;exact B (v:=V.bU) J rfl q
 |brk=>obtain⟨_,_,_,q⟩:=hs;exact False.elim q
 |cont=>obtain⟨_,_,_,q⟩:=hs;exact False.elim q
section
variable {X:Cx}{x:Str}{p pos:Pos}{e:Expr}{es:List Expr}{t:TA}{id T:String}{r:List V->Hp->VK->Prop}
def wy (r:List V->Hp->VK->Prop)(t:TA):TE:=λσ H Q=>t σ H λvs H1=>r vs H1 Q
theorem zfr (f:CallR X (.builtin id) r)(g:Gl X x)(hm:X.mg x=Z8)(i:eh x=Z9 (.builtin id))(ha:PA X (e::es) t)(hn:x≠"__name__":=by decide)(b:VI x:=by decide)
  (j:eo (e::es) X.env=(Z6,eval e X.env)::eo es X.env:=by rfl) (c:(kj pos (eo es X.env)).any (·.1)=false:=by rfl):PE X (.Call (.Name x p) (e::es) [] pos) (wy r t):=by
 intro a s d H Q I h;refine i0 (z56 I g hm i ?_ hn b);exact PyProof.Rows.callWith_builtin1 (aI (ha pos a s d H _ I h) λk l ⟨m,n,o,q,u⟩=>f a l d n m k Q o q u) j c
theorem ze9 (f:CallR X (.type T) r)(g:Gl X x)(hm:X.mg x=Z8)(i:eh x=Z9 (.type T))(ha:PA X (e::es) t)(hn:x≠"__name__":=by decide)(b:VI x:=by decide)
  (j:eo (e::es) X.env=(Z6,eval e X.env)::eo es X.env:=by rfl) (c:(kj pos (eo es X.env)).any (·.1)=false:=by rfl):PE X (.Call (.Name x p) (e::es) [] pos) (wy r t):=by
 intro a s d H Q I h;refine i0 (z56 I g hm i ?_ hn b);exact PyProof.Rows.callWith_type1 (aI (ha pos a s d H _ I h) λk l ⟨m,n,o,q,u⟩=>f a l d n m k Q o q u) j c
end
section
variable {κ:Type} [DecidableEq κ]
def cV (kvs:List (κ×V))(k:κ):Option V:=(kvs.find? λkv=>decide (kv.1=k)).map (·.2)
def putK (kvs:List (κ×V))(k:κ)(v:V):List (κ×V):=if(kvs.any λkv=>decide (kv.1=k))=Z7 then kvs.map (λkv=>if kv.1=k then(kv.1,v)else kv)else kvs++[(k,v)]
def GO (kvs:List (κ×V))(k:κ):List (κ×V):=kvs.filter λkv=>decide (kv.1≠k)
theorem zb {p:κ×V}(e:p.1=k):cV (p::r) k=Z9 p.2:=by simp[cV,jz,e]
theorem zc {p:κ×V}(e:¬p.1=k):cV (p::r) k=cV r k:=by simp[cV,jz,e]
theorem GP (k:κ):∀a,(a.any λb=>decide (b.1=k))=(cV a k).isSome
 | []=>rfl
 |p::r=>by
  rw[l9];by_cases e:p.1=k
  .simp only[zb e,vq e,ke,Option.isSome_some]
  .rw[zc e,vr e];exact GP k r
theorem GQ (a:List (κ×V))(k:κ)(v:V):(putK a k v).length<=a.length+1:=by
 unfold putK;split
 .rw[ae];omega
 .rw[ao,bo,List.length_nil];omega
theorem eO.dX (r:eO o u):o.isSome=u.isSome:=by
 cases o with
 |none=>cases u with
  |none=>rfl
  |some _=>exact r.elim
 |some _=>cases u with
  |none=>exact r.elim
  |some _=>rfl
theorem eO.getD (r:eO o u)(rd:RelV d a):RelV (o.getD d) (u.getD a):=by
 cases o with
 |none=>cases u with
  |none=>exact rd
  |some _=>exact r.elim
 |some _=>cases u with
  |none=>exact r.elim
  |some _=>exact r
theorem KV.val (r:KV a g)(k:κ):eO (cV a k) (t8 g k):=by
 induction r with
 |nil=>exact True.intro
 | @cons p q ps c h t i=>
  obtain⟨f,j⟩:=h;by_cases e:p.1=k
  .have d:q.1=k:=f.symm.trans e;have b:t8 (q::c) k=Z9 q.2:=by simp[t8,jz,d]
   rw[zb e,b];exact j
  .have d:¬q.1=k:=λz=>e (f.trans z);have b:t8 (q::c) k=t8 c k:=by simp[t8,jz,d]
   rw[zc e,b];exact i
theorem KV.any (r:KV a c)(k:κ):(a.any λb=>decide (b.1=k))=c.any λb=>decide (b.1=k):=by
 induction r with
 |nil=>rfl
 |cons h t d=>rw[l9,l9,d,h.1]
theorem KV.repl (r:KV c d)(k:κ)(f:RelV y u):
  KV (c.map λa=>if a.1=k then(a.1,y)else a) (d.map λa=>if a.1=k then(a.1,u)else a):=by
 induction r with
 |nil=>exact .nil
 | @cons p q ps j h t g=>
  rw[bp,bp];refine .cons ?_ g;obtain⟨b,i⟩:=h;by_cases e:p.1=k
  .rw[vh e,vh (b.symm.trans e)];exact⟨b,f⟩
  .rw[vm e,vm (λz=>e (b.trans z))];exact⟨b,i⟩
theorem KV.put (r:KV a b)(k:κ)(c:RelV y u):KV (putK a k y) (stored b k u):=by
 unfold putK stored;rw[r.any k];by_cases e:(b.any λd=>decide (d.1=k))=Z7
 .rw[vh e,vh e];exact r.repl k c
 .rw[vm e,vm e];exact Paired.snoc r ⟨rfl,c⟩
theorem KV.drop (r:KV kvs vs)(k:κ):KV (GO kvs k) (without vs k):=by
 unfold GO without
 induction r with
 |nil=>exact .nil
 | @cons p q ps qs h t ih=>
  obtain⟨h1,h2⟩:=h;rw[List.filter_cons,List.filter_cons];by_cases e:p.1=k
  .have a:¬decide (p.1≠k)=true:=by simp[e]
   have b:¬decide (q.1≠k)=true:=by simp[h1.symm.trans e]
   rw[vm a,vm b];exact ih
  .have e':¬q.1=k:=λz=>e (h1.trans z);have a:decide (p.1≠k)=true:=by simp[e]
   have b:decide (q.1≠k)=true:=by simp[e']
   rw[vh a,vh b];exact .cons ⟨h1,h2⟩ ih
theorem KV.length (r:KV a vs):a.length=vs.length:=Paired.length r
end
theorem uL (r:RelV (kV k) u):(nB P w).is k u=true:=by
 cases k with
 |inl i=>obtain⟨t,e⟩:=r;subst e;exact LD P w i t
 |inr x=>obtain⟨t,e⟩:=r;subst e;exact LF P w x t
abbrev KT (H:Hp):List (List Key×V)->List (List Key×Addr×Value)->Prop:=ml λp q=>p.1=q.1/\H q.2.1=Z9 (.tup (p.1.map kV))/\RelV p.2 q.2.2
theorem KT.val (r:KT H a g)(k:List Key):eO (cV a k) ((atKey g k).map (·.2)):=by
 induction r with
 |nil=>exact True.intro
 | @cons p q ps c h t i=>
  obtain⟨f,_,j⟩:=h;by_cases e:p.1=k
  .have d:q.1=k:=f.symm.trans e;have b:atKey (q::c) k=Z9 q.2:=by simp[atKey,jz,d]
   rw[zb e,b];exact j
  .have d:¬q.1=k:=λz=>e (f.trans z);have b:atKey (q::c) k=atKey c k:=by simp[atKey,jz,d]
   rw[zc e,b];exact i
theorem KT.repl (r:KT H b f)(k:List Key)(g:RelV y u):
  KT H (b.map λc=>if c.1=k then(c.1,y)else c) (f.map (putAt k u)):=by
 induction r with
 |nil=>exact .nil
 | @cons p q ps l h t i=>
  rw[bp];refine .cons ?_ i;obtain⟨a,d,j⟩:=h;unfold putAt;by_cases e:p.1=k
  .rw[vh e,vh (a.symm.trans e)];exact⟨a,d,g⟩
  .rw[vm e,vm (λz=>e (a.trans z))];exact⟨a,d,j⟩
theorem KT.put (r:KT H a c)(k:List Key)(hb:H b=Z9 (.tup (k.map kV)))(d:RelV y u):
  KT H (putK a k y) (storedH c k b u):=by
 have e:(a.any λf=>decide (f.1=k))=(atKey c k).isSome:=by rw[GP,(r.val k).dX,Option.isSome_map]
 unfold putK storedH;rw[e];by_cases q:(atKey c k).isSome=Z7
 .rw[vh q,vh q];exact r.repl k d
 .rw[vm q,vm q];exact Paired.snoc r ⟨rfl,hb,d⟩
theorem KT.keeps (r:KT H a d)(ht:∀b c,H b=Z9 (.tup c)->e b=Z9 (.tup c)):KT e a d:=Paired.wa r λ_ _ z=>⟨z.1,ht _ _ z.2.1,z.2.2⟩
section
variable {P:bu}{w:World}{H:Hp}{h:Heap}{a:Addr}
theorem MG (ok:HOk P w H h)(e:Rd H a u):z14 P w H h a u:=e.ok ok
theorem rM (ok:HOk P w H h)(e:Rd H a (.dK b)):b.length<=bf/\(a==nq)=Z6/\∃c,KV b c/\h.DictOf (nB P w) a c:=show z14 P w H h a (.dK b)from MG ok e
theorem zd (ok:HOk P w H h)(e:H a=Z9 (.dK b)):b.length<=bf/\(a==nq)=Z6/\∃c,KV b c/\h.DictOf (nB P w) a c:=rM ok (.inl e)
end
def DGet (H:Hp)(a:Addr)(y:V)(r:Option V):Prop:=∃kvs k,Rd H a (.dK kvs)/\y=kV k/\r=cV kvs k
def DPut (H:Hp)(a:Addr)(y v:V)(H':Hp):Prop:=∃kvs k,H a=Z9 (.dK kvs)/\y=kV k/\kvs.length<bf/\H'=upd H a (.dK (putK kvs k v))
theorem DGet.k {k:Key}(e:H a=Z9 (.dK kvs)):DGet H a (kV k) (cV kvs k):=⟨kvs,k,.inl e,rfl,rfl⟩
theorem DPut.k {k:Key}(e:H a=Z9 (.dK kvs))(hl:kvs.length<bf):DPut H a (kV k) v (upd H a (.dK (putK kvs k v))):=⟨kvs,k,e,rfl,hl,rfl⟩
section
variable {X:Cx}{pins:List (Addr×Obj)}{σ:St}{H:Hp}{s:ak}{a:Addr}{y v:V}{u r:Value}{o:Option V}{A:fq}{E:Value->ak->Prop}
theorem Inv.big (I:Inv X pins σ H s):nq<s.heap.objs.size:=by exact m7 (by decide) ((I.mod.glob.keeps I.bk).lt)
theorem zdp (hu:A.units+1<cLine)(I:Inv X pins σ H s)(g:DGet H a y (Z9 v))(ry:RelV y u)(h:∀w' s',Inv X pins σ H s'->RelV v w'->Q w' s'):
  wpAny (model X.prog X.w) A (t9 (.ref a) u) Q E s:=by
 obtain⟨kvs,k,e,ey,l⟩:=g
 .subst ey;obtain⟨z,hd,vs,rel,dd⟩:=rM I.hok e;obtain⟨w',hw,MH⟩:=eO.some_of (by rw[l];exact rel.val k);exact wpAny_getItem_of (uL ry) dd.mapOf hw (h w' _ (I.tok _) MH)
theorem d_in (hu:A.units+1<cLine)(I:Inv X pins σ H s)(g:DGet H a y o)(ry:RelV y u)(h:∀s',Inv X pins σ H s'->Q (.bool o.isSome) s'):
  wpAny (model X.prog X.w) A (er .In u (.ref a)) Q E s:=by
 obtain⟨kvs,k,e,ey,l⟩:=g
 .subst ey;obtain⟨z,hd,vs,rel,dd⟩:=rM I.hok e;refine wpAny_in_of (uL ry) hd dd.mapOf ?_;rw[<-(rel.val k).dX,<-l];exact h _ (I.tok _)
theorem zkx (hu:A.units+1<cLine)(I:Inv X pins σ H s)(g:DGet H a y o)(ry:RelV y u)(h:∀s',Inv X pins σ H s'->Q (.bool (!o.isSome)) s'):
  wpAny (model X.prog X.w) A (er .NotIn u (.ref a)) Q E s:=by
 obtain⟨kvs,k,e,ey,l⟩:=g
 .subst ey;obtain⟨z,hd,vs,rel,dd⟩:=rM I.hok e;refine wpAny_notIn_of (uL ry) hd dd.mapOf ?_;rw[<-(rel.val k).dX,<-l];exact h _ (I.tok _)
theorem zb0 (I:Inv X pins σ H s)(mu:Mut (H a))(hs:gi a s.heap c)(e:∃q,c.get? a=Z9 q)(new:z14 X.prog X.w (upd H a d) c a d):
  Inv X pins σ (upd H a d) {s with heap:=c,toks:=t'}:=
 I.write mu (.inl rfl) (λb q hb z=>(hs.2 b hb).trans z) e new
theorem GR (z:b.length<=bf)(hd:(a==nq)=Z6)(rel:KV b c)(dd:d.DictOf (nB P w) a c): z14 P w e d a (.dK b):=⟨z,hd,c,rel,dd⟩
theorem zbk (hu:A.units+1<cLine)(I:Inv X pins σ H s)(g:DPut H a y v H')(ry:RelV y u)(rv:RelV v r)(h:∀s',Inv X pins σ H' s'->Q () s'):
  wpAny (model X.prog X.w) A (setItem (.ref a) u r) Q E s:=by
 obtain⟨kvs,k,e,ey,l,eH⟩:=g
 .subst ey eH;obtain⟨z,hd,vs,rel,dd⟩:=zd I.hok e;have hz:vs.length<=bf:=by rw[<-rel.length];exact z
  have hl:(putK kvs k v).length<=bf:=by have:=GQ kvs k v;omega
  refine wpAny_setItem_pairs (uL ry) dd λh' GS hs=>h _ ?_;have he:∃q,h'.get? a=Z9 q:=let⟨q,_,_,hq,_⟩:=GS;⟨q,hq⟩;exact zb0 I (by rw[e];exact True.intro) hs he (GR hl hd (rel.put k rv) GS)
end
section
variable {X:Cx}{pins:List (Addr×Obj)}{σ:St}{H:Hp}{s:ak}{a:Addr}{kvs:List (Key×V)}{k:Key}{u:Value}{A:fq}{E:Value->ak->Prop}
theorem MI (I:Inv X pins σ H s)(e:Rd H a (.dK kvs))(h:∀t b,Inv X pins σ H b->Q (.int kvs.length t) b):wpAny (model X.prog X.w) A (call (.builtin "len") [.ref a]) Q E s:=by obtain⟨z,hd,c,rel,dd⟩:=rM I.hok e;refine call_len_dict hd dd (by rw[<-rel.length];rw[fj]at z;omega) ?_;rw[<-rel.length];exact h _ _ (I.tok _)
end
theorem MJ (I:Inv X pins σ H s)(g:DGet H a y o):s.TypeIs (.ref a) "dict":=by
 obtain⟨kvs,k,e,_,_⟩:=g
 .obtain⟨_,_,vs,_,dd⟩:=rM I.hok e;exact dd.typeIs
theorem GU (h:Heap)(hb:nq<h.objs.size):z14 P w H (h.push {cls:=.type "dict",data:=.dict #[]}) h.objs.size (.dK []):=⟨e8 _,beq_eq_false_iff_ne.mpr (Ne.symm (cz hb)),[],.nil,Heap.DictOf.new h⟩
def MK:TE:=λ_ H Q=>∀p,H p=Z8->Q (.ref p) (upd H p (.dK []))
section
variable {X:Cx}{pos:Pos}
theorem ML:PE X (.Dict [] [] pos) MK:=λa s b H Q I h=>wpAny_Dict_empty ⟨.ref s.heap.objs.size,_,I.laid (λ_ _ q=>af _ q) (ah _) (GU s.heap I.big),rfl,h _ (I.hok.fresh (ah _))⟩
end
structure M1 (X:Cx)(o:Expr)(m:Str)(apos:Pos)(e:Expr)(cpos:Pos):Prop where
 base:ma o m X.env (eval o X.env)=eval o X.env
 wz:((kj cpos (eo [e] X.env)).all (λx=> !x.1)&&(t5 cpos (og [] X.env)).all (λx=>x.1.isSome) &&decide (([e]:List Expr).length+([]:List m6).length+(if([]:List m6).isEmpty then 0 else 1)<30))=Z7
 line:(apos.endLine==cpos.line)=Z7
 trees:kj cpos (eo [e] X.env)=[(Z6,eval e X.env)]
structure M2 (X:Cx)(o:Expr)(m:Str)(apos:Pos)(e f:Expr)(cpos:Pos):Prop where
 base:ma o m X.env (eval o X.env)=eval o X.env
 wz:((kj cpos (eo [e,f] X.env)).all (λx=> !x.1)&&(t5 cpos (og [] X.env)).all (λx=>x.1.isSome) &&decide (([e,f]:List Expr).length+([]:List m6).length+(if([]:List m6).isEmpty then 0 else 1)<30))=Z7
 line:(apos.endLine==cpos.line)=Z7
 trees:kj cpos (eo [e,f] X.env)=[(Z6,eval e X.env),(Z6,eval f X.env)]
section
variable {X:Cx}{pins:List (Addr×Obj)}{σ:St}{H:Hp}{s:ak}{a:Addr}{y d:V}{u r:Value}{o:Option V}{A:fq}{E:Value->ak->Prop}
theorem zp9 (hu:A.units+1<cLine)(I:Inv X pins σ H s)(g:DGet H a y o)(ry:RelV y u)(rd:RelV d r)(h:∀w' s',Inv X pins σ H s'->RelV (o.getD d) w'->Q w' s'):
  wpAny (model X.prog X.w) A (call (.builtin "dict.get") [.ref a,u,r]) Q E s:=by
 obtain⟨kvs,k,e,ey,l⟩:=g
 .subst ey;obtain⟨z,hd,vs,rel,dd⟩:=rM I.hok e;refine call_meetsIn PySem.F.slot_dict_get dd.typeIs PySem.F.entry_dict_get (PySem.F.args_dict_get_3 _ _ _) (meets_dict_get_default (nB X.prog X.w) a (uL ry) hd r) ⟨_,dd.mapOf,h _ _ (I.tok _) ?_⟩;rw[l];exact(rel.val k).getD rd
end
end L2
namespace HT
open PySem PyProof.Rows
section
variable {prog:bu}{w:World}{A:fq}{E:Value->ak->Prop}{s:ak}
theorem cat_tup (ht:IsTup s.heap t c.toArray)(hb:IsTup s.heap b ws.toArray)(l:c≠[])
  (p:ws=[]->Q (.ref t) s) (q:ws≠[]->Q (.ref s.heap.objs.size) {s with heap:=s.heap.push {cls:=.type "tuple",data:=.seq (c++ws).toArray}})
  (d:c.length+ws.length<=bf):wpAny (model prog w) A (iq .Add (.ref t) (.ref b)) Q E s:=by
 obtain⟨⟨cls,dd,data,sl⟩,ho,r,n,hd⟩:=id ht;obtain⟨⟨m,f,i,g⟩,a,j,o,k⟩:=id hb;subst r hd j k;have e:c.toArray++ws.toArray=(c++ws).toArray:=by simp
 by_cases h:ws=[]
 .exact pz ⟨_,ho,rfl⟩ ⟨_,a,rfl⟩ o8 sk PySem.F.slot_tuple_add PySem.F.entry_tuple_add (PySem.F.args_tuple_add_2 _ _) (tuple_addW1 t b c.toArray ws.toArray n o dd f sl g (by simpa using l) (by simp[h])) ⟨ho,a,p h⟩
 .refine pz ⟨_,ho,rfl⟩ ⟨_,a,rfl⟩ o8 sk PySem.F.slot_tuple_add PySem.F.entry_tuple_add (PySem.F.args_tuple_add_2 _ _)
   (tuple_addW2 t b c.toArray ws.toArray n o dd f sl g (by simpa using l) (by simpa using h) (bw▸d)) ⟨ho,a,?_⟩
  rw[e];exact q h
def aT (n d:Nat):Option Int->Nat
 |none=>d
 |some v=>if v<0 then(v+(n:Int)).toNat else min v.toNat n
theorem rN (n d:Nat)(hd:d<=n)(o:Option Int):aT n d o<=n:=by
 cases o with
 |none=>exact hd
 |some v=>
  show(if v<0 then(v+n).toNat else min v.toNat n)<=n;by_cases a:v<0
  .rw[vh a];omega
  .rw[vm a];exact Nat.min_le_right _ _
theorem GV (v:Int)(n d:Nat):(if v<0 then max (v+(n:Int)) 0 else min v (n:Int))=((aT n d (Z9 v):Nat):Int):=by
 show(if v<0 then max (v+n) 0 else min v n)=(((if v<0 then(v+n).toNat else min v.toNat n):Nat):Int);by_cases a:v<0
 .simp only[vh a];omega
 .simp only[vm a];omega
theorem MM (a b:Option Int)(n:Nat):n8 a b 1 (n:Int)=(((aT n 0 a:Nat):Int),((aT n n b:Nat):Int)):=by
 refine u5 ?_ ?_
 .cases a with
  |none=>rfl
  |some v=>exact GV v n 0
 .cases b with
  |none=>rfl
  |some v=>exact GV v n n
theorem MN (i j:Nat):i4 (i:Int) (j:Int) 1=j-i:=by unfold i4;split<;>omega
theorem GX (p:tq v o)(h:Q o s):wpAny (model prog w) A (Builtin.Slice.slicePartIndex v) Q E s:=by
 cases p with
 |none=>exact slicePart_none h
 |int i t=>exact slicePart_int h
theorem z3r {a:Option Int}{n:Nat}(hs:s.heap.IsSliceOf sl e f .none)(pl:tq e a)(pu:tq f d)
  (h:Q (((aT n 0 a:Nat):Int),1,aT n n d-aT n 0 a) s):wpAny (model prog w) A (Builtin.Slice.sliceApplied (.ref sl) (pure n)) Q E s:=by
 obtain⟨os,b,g,c⟩:=id hs;refine aa (aa (k8 b c rfl (aa (k8 b c rfl (aa (k8 b c rfl (av ?_)))))));refine aa (slicePart_none ?_);refine aa (GX pl (aa (GX pu (aa (av ?_)))));show wpAny _ _ (match n8 a d 1 n with|(a,d)=>pure (a,(1:Int),i4 a d 1)) _ _ s;rw[MM a d n];show wpAny _ _ (pure (((aT n 0 a:Nat):Int),1,i4 ((aT n 0 a:Nat):Int) ((aT n n d:Nat):Int) 1)) _ _ s;rw[MN];exact av h
theorem MO (a:Array Value)(i k:Nat):((b9 k).filterMap λ(m:Nat)=>a[((i:Int)+(m:Int)*1).toNat]?).toArray=((a.toList.drop i).take k).toArray:=by
 have e:(λ(m:Nat)=>a[((i:Int)+m*1).toNat]?)=λm=>a[i+m]?:=by
  funext m
  have:((i:Int)+m*1).toNat=i+m:=by omega
  rw[this]
 rw[e];have:=pick_run a i k;rw[List.filterMap_map]at this;have b:((λx=>a[x]?)∘λx=>i+x)=λm=>a[i+m]?:=rfl;rw[b]at this;rw[this]
theorem getItem_tuple_cut {b:Option Int}(ht:IsTup s.heap t items)(hs:s.heap.IsSliceOf sl i j .none)(pl:tq i b)(pu:tq j c)
  (k:¬(aT items.size 0 b=0/\aT items.size items.size c=items.size))
  (h:Q (.ref s.heap.objs.size) {s with heap:=s.heap.push {cls:=.type "tuple",data:=.seq ((items.toList.drop (aT items.size 0 b)).take (aT items.size items.size c-aT items.size 0 b)).toArray}})
  (g:items.size<=bf):wpAny (model prog w) A (t9 (.ref t) (.ref sl)) Q E s:=by
 have a:sizeOk (.seq ((items.toList.drop (aT items.size 0 b)).take (aT items.size items.size c-aT items.size 0 b)).toArray):=by show((items.toList.drop (aT items.size 0 b)).take (aT items.size items.size c-aT items.size 0 b)).toArray.size<=bf;rw[bw,df,g7,aw];omega
 obtain⟨os,d,e,l⟩:=id hs;unfold t9
 try with_reducible refine dw ?_
 first|refine aa (av ?_)|skip
 refine aa (wpAny_sequenceKey ht.typeIs (by decide) ?_);refine aa (wpAny_callSpecial?_slot ht.typeIs PyProof.Rows.slot_tuple_getitem (kg PyProof.Rows.slot_tuple_getitem ht.typeIs entry_tuple_getitem ?_ (args_tuple_getitem _ _)));show wpAny _ _ (Builtin.Tuple.tupleItemsOf (.ref t)>>=_) _ _ s;refine aa (tupleItemsOf_ ht ?_);refine aa (m8 ⟨os,d,e⟩ ?_);refine aa (z3r hs pl pu ?_);have f:¬((((aT items.size 0 b:Nat):Int)==0&&(1:Int)==1&&(aT items.size items.size c-aT items.size 0 b)==items.size)=Z7):=by intro q;rw[a6,a6]at q;have m:=eq_of_beq q.1.1;have n:=eq_of_beq q.2;exact k ⟨by omega,by omega⟩
 show wpAny _ _ (if(((aT items.size 0 b:Nat):Int)==0&&1==1&&(aT items.size items.size c-aT items.size 0 b)==items.size)=Z7 then _ else _) _ _ s;rw[vm f,MO]
 first
  |exact aa (jc (av ⟨_,rfl,av h⟩) a)
  |exact aa (jc (aa (av (av ⟨_,rfl,av h⟩))) a)
  |exact aa (aa (jc (av (av ⟨_,rfl,av h⟩)) a))
  |exact aa (aa (jc (av ⟨_,rfl,av h⟩) a))
end
end HT
namespace L2
open PySem PySem.Spec PyProof.Rows
abbrev TO:=St->Hp->(Option Int->Hp->Prop)->Prop
def PO (X:Cx)(e:Option Expr)(t:TO):Prop:=∀(pins:List (Addr×Obj)) (s:ak) (σ:St) (H:Hp) (Q:Option Int->Hp->Prop),Inv X pins σ H s->t σ H Q->wpAny (model X.prog X.w) X.A (evalPart e X.env) (λu s'=>∃o H',Inv X pins σ H' s'/\tq u o/\Q o H') X.xe s
def MP:TO:=λ_ H Q=>Q Z8 H
def MQ (t:TE):TO:=λσ H Q=>t σ H λx H1=>∃i,x=.int i/\Q (Z9 i) H1
theorem intsAre_of:∀{a:List Value},Vals (ns.map V.int) a->rh a ns:=by
 induction ns with
 |nil=>intro a r;rw[List.map_nil]at r;cases r;exact .nil
 |cons n ns b=>
  intro a r;cases r with
  |cons c d=>obtain⟨t,rfl⟩:=c;exact .cons n t (b d)
section
variable {X:Cx}{e:Expr}{te:TE}{lo hi:Option Expr}{tl th:TO}{pos p2:Pos}
theorem MR:PO X Z8 MP:=by intro a s b H Q I h;exact av ⟨Z8,H,I,.none,h⟩
theorem MS (h:PE X e te):PO X (Z9 e) (MQ te):=by intro a s b H Q I c;refine aI (h a s b H _ I c) λu k ⟨x,d,f,g,j⟩=>?_;obtain⟨i,rfl,q⟩:=j;obtain⟨t,rfl⟩:=g;exact⟨Z9 i,d,f,.int i t,q⟩
def nG (X:Cx)(r:V->Option Int->Option Int->Hp->VK->Prop):Prop:=∀(pins:List (Addr×Obj)) (s:ak) (σ:St) (H:Hp) (x:V) (v vl vu:Value) (lo hi:Option Int) (sl:Addr) (Q:VK),Inv X pins σ H s->RelV x v->s.heap.IsSliceOf sl vl vu .none->tq vl lo->tq vu hi->r x lo hi H Q->∃T id,typeLookup (.type T) "__getitem__"=pure (Z9 (.builtin id))/\s.TypeIs v T/\wpAny (model X.prog X.w) X.A (t9 v (.ref sl)) (EP X pins σ Q) X.xe s
theorem nG.or (h:nG X r)(f:nG X g):nG X (λx lo hi H Q=>r x lo hi H Q\/g x lo hi H Q):=by
 intro a s b H x v c d lo hi sl Q I e hs pl pu q;rcases q with q|q
 .exact h a s b H x v c d lo hi sl Q I e hs pl pu q
 .exact f a s b H x v c d lo hi sl Q I e hs pl pu q
def MT (r:V->Option Int->Option Int->Hp->VK->Prop)(te:TE)(tl th:TO):TE:=λσ H Q=>te σ H λx H1=>tl σ H1 λl H2=>th σ H2 λu H3=>r x l u H3 Q
theorem MU (hr:nG X r)(j:PE X e te)(hl:PO X lo tl)(hu:PO X hi th):PE X (.Subscript e (.Slice lo hi Z8 p2) pos) (MT r te tl th):=by intro a s c H Q I h;refine Subscript_ (aI (j a s c H _ I h) λv k ⟨x,m,n,o,p⟩=>?_);refine wpAny_Slice (aI (hl a k c m _ n p) λf t ⟨l,w,y,pl,z⟩=>aI (hu a t c w _ y z) λg d ⟨u,i,A,pu,B⟩=>?_);refine av ?_;have C:Inv X a c i {d with heap:=d.heap.push {cls:=.type "slice",data:=.fields #[f,g,.none]}}:=A.kept λb F q=>af _ q;obtain⟨T,id,D,ht,E⟩:=hr a {d with heap:=d.heap.push {cls:=.type "slice",data:=.fields #[f,g,.none]}} c i x v f g l u d.heap.objs.size Q C o (Heap.IsSliceOf.new ..) pl pu B;exact tail_any ht D E (by with_unfolding_all rfl)
def oA (xs:List V)(lo hi:Option Int):List V:=(xs.drop (HT.aT xs.length 0 lo)).take (HT.aT xs.length xs.length hi-HT.aT xs.length 0 lo)
theorem GY (a:List V)(lo hi:Option Int):(oA a lo hi).length<=a.length:=by unfold oA;rw[df,g7];omega
def BW (K:Z5):V->Option Int->Option Int->Hp->VK->Prop:=λx lo hi H Q=>∃a xs,x=.ref a/\cL K H a xs/\¬(HT.aT xs.length 0 lo=0/\HT.aT xs.length xs.length hi=xs.length)/\∀p,H p=Z8->Q (.ref p) (upd H p (.tup (oA xs lo hi)))
theorem MV:nG X (BW X.K):=by
 rintro f s j H x v k l lo hi sl Q I h hs pl pu ⟨a,d,rfl,hx,i,q⟩
 cases h;obtain⟨e,r,ht,g⟩:=I.tuple hx;have c:e.toArray.size=d.length:=bw▸r.length.symm;refine⟨"tuple",_,PyProof.Rows.slot_tuple_getitem.lookup,ht.typeIs,?_⟩;refine HT.getItem_tuple_cut ht hs pl pu (c▸i) ?_ (c▸g);rw[c];refine⟨.ref s.heap.objs.size,_,I.laid (λb m q=>af _ q) (ah _) ?_,rfl,q _ (I.hok.fresh (ah _))⟩;exact⟨cc (GY d lo hi) g,_,(r.drop (HT.aT d.length 0 lo)).take (HT.aT d.length d.length hi-HT.aT d.length 0 lo),TupN.new _ _⟩
def GZ (K:Z5):R2:=λx y H Q=>∃a b xs ys,x=.ref a/\y=.ref b/\cL K H a xs/\cL K H b ys/\xs≠ []/\xs.length+ys.length<=bf/\(ys=[]->Q (.ref a) H)/\(ys≠[]->∀p,H p=Z8->Q (.ref p) (upd H p (.tup (xs++ys))))
theorem Vals.fP (r:Vals a b):b=[]↔a=[]:=by
 cases r with
 |nil=>simp
 |cons _ _=>simp
theorem MW:OpR X (iq .Add) (GZ X.K):=by
 rintro e s n H x y v u Q I h i ⟨a,b,o,p,rfl,rfl,ha,hb,hx,f,j,k⟩
 cases h;cases i;obtain⟨l,d,m,_⟩:=I.tuple ha;obtain⟨g,c,p2,_⟩:=I.tuple hb;refine HT.cat_tup m p2 (λz=>hx (d.fP.mp z)) (λz=>⟨.ref a,H,I,rfl,j (c.fP.mp z)⟩) (λz=>?_) (by rw[<-d.length,<-c.length];exact f);refine⟨.ref s.heap.objs.size,_,I.laid (λb r q=>af _ q) (ah _) ?_,rfl,k (λw=>z (c.fP.mpr w)) _ (I.hok.fresh (ah _))⟩;exact⟨by rw[ao];exact f,_,d.append c,TupN.new _ _⟩
end
def iG (n:Nat)(i:Int):Option Nat:=if 0<=i then(if i<n then Z9 i.toNat else Z8)else if -(n:Int)<=i then Z9 (i+n).toNat else Z8
def cW {α:Type}(xs:List α)(i:Int):Option α:=(iG xs.length i).bind λj=>xs[j]?
theorem G0 (h:iG n i=Z9 j):seqIndex? i n=Z9 j/\j<n/\-(n:Int)<=i/\i<n:=by
 unfold iG at h;by_cases h0:0<=i
 .rw[vh h0]at h;by_cases a:i<n
  .rw[vh a]at h;have e:=vn h;exact⟨by rw[ur h0 a,e],by omega,by omega,a⟩
  .rw[vm a]at h;cases h
 .rw[vm h0]at h;by_cases a:-n<=i
  .rw[vh a]at h;have e:=vn h;exact⟨by rw[ua (by omega) a,e],by omega,a,by omega⟩
  .rw[vm a]at h;cases h
theorem BX (h:cW a i=Z9 v):∃j,seqIndex? i a.length=Z9 j/\a[j]?=Z9 v/\j<a.length/\-(a.length:Int)<=i/\i<a.length:=by
 unfold cW at h;cases e:iG a.length i with
 |none=>rw[e]at h;cases h
 |some j=>rw[e]at h;obtain⟨b,c,d,f⟩:=G0 e;exact⟨j,b,h,c,d,f⟩
def G1 (b:Expr):Prop:=∀o i,subscripted b Z6 o i=operate [o,i] (t9 o i)
def kQ (X:Cx)(r:R2):Prop:=∀(value slice:Expr) (pins:List (Addr×Obj)) (s:ak) (σ:St) (H:Hp) (x y:V) (v u:Value) (Q:VK),Inv X pins σ H s->RelV x v->RelV y u->r x y H Q->subscripted slice Z6 v u=operate [v,u] (t9 v u)->wpAny (model X.prog X.w) X.A (subscriptTail value slice v u) (EP X pins σ Q) X.xe s
def MtR (X:Cx)(id:String)(r:V->List V->Hp->VK->Prop):Prop:=∀(pins:List (Addr×Obj)) (s:ak) (σ:St) (H:Hp) (x:V) (xs:List V) (v:Value) (us:List Value) (Q:VK),Inv X pins σ H s->RelV x v->Vals xs us->r x xs H Q->wpAny (model X.prog X.w) X.A (call (.builtin id) (v::us)) (EP X pins σ Q) X.xe s
section
variable {X:Cx}{a b:Expr}{ta tb:TE}{pos:Pos}
theorem kQ.or (h:kQ X r)(g:kQ X i):kQ X (λx y H Q=>r x y H Q\/i x y H Q):=by
 intro a b c s d H x y v u Q I e f q hs;rcases q with q|q
 .exact h a b c s d H x y v u Q I e f q hs
 .exact g a b c s d H x y v u Q I e f q hs
theorem MtR.or {id:String}(h:MtR X id r)(h':MtR X id r'):MtR X id (λx xs H Q=>r x xs H Q\/r' x xs H Q):=by
 intro pins s σ H x xs v us Q I rx rs q;rcases q with q|q
 .exact h pins s σ H x xs v us Q I rx rs q
 .exact h' pins s σ H x xs v us Q I rx rs q
theorem MX (hr:kQ X r)(ha:PE X a ta)(hb:PE X b tb)(hs:G1 b):PE X (.Subscript a b pos) (wq r ta tb):=by intro c s d H Q I h;exact Subscript_ (binT ha hb I h λv u e x y f g i j q=>hr a b c e d f x y v u Q g i j q (hs _ _))
def wA (K:Z5):R2:=λx y H Q=>∃p xs i v,x=.ref p/\y=.int i/\SqL K H p xs/\cW xs i=Z9 v/\Q v H
def wB (K:Z5):R2:=λx y H Q=>∃p xs i v,x=.ref p/\y=.int i/\cL K H p xs/\cW xs i=Z9 v/\Q v H
def wC:R2:=λx y H Q=>∃z i c,x=.str z/\y=.int i/\z.length<=bf/\cW z.cps.toList i=Z9 c/\Q (.str ⟨#[c]⟩) H
theorem MY:kQ X (wA X.K):=by
 intro d e a s m H x y v u Q I n o h hs;obtain⟨p,F,i,z,rfl,rfl,A,B,q⟩:=h;cases n;obtain⟨t,rfl⟩:=o;obtain⟨f,r,pl,G⟩:=I.list A;obtain⟨j,c,C,J,D,E⟩:=BX B;obtain⟨w,l,g⟩:=r.get C;have hl:=r.length;have hn:=rJ;have b:EP X a m Q w s:=⟨z,H,I,g,q⟩;by_cases h0:0<=i
 .have k:i.toNat=j:=by
   rw[ur h0 E]at c;exact vn c
  exact item_listR pl.isList h0 (by omega) (by rw[k];simpa using l) b hs
 .have k:(i+f.toArray.size).toNat=j:=by
   rw[ua (by omega) D]at c;rw[bw,<-hl];exact vn c
  exact p5 pl.isList.typeIs slot_list_getitem.lookup (wpAny_getItem_list_neg pl.isList (by omega) (by rw[bw]<;>omega) (by omega) (by rw[k];simpa using l) ⟨rfl,b⟩) hs
theorem MZ:kQ X (wB X.K):=by intro a b d s A H x y v u Q I e f h hs;obtain⟨p,B,i,z,rfl,rfl,g,k,q⟩:=h;cases e;obtain⟨t,rfl⟩:=f;obtain⟨l,r,pl,C⟩:=I.tuple g;obtain⟨j,m,n,D,E,F⟩:=BX k;obtain⟨w,o,c⟩:=r.get n;have hn:=rJ;exact p5 pl.typeIs slot_tuple_getitem.lookup (getItem_tuple pl (by omega) (by omega) (by rw[bw,<-r.length];exact m) (by simpa using o) ⟨rfl,⟨z,H,I,c,q⟩⟩) hs
theorem BY:kQ X wC:=by
 intro a b d s o H x y v u Q I f g h hs;obtain⟨z,i,c,rfl,rfl,p,k,q⟩:=h;obtain⟨t,rfl⟩:=f;obtain⟨r,rfl⟩:=g;obtain⟨j,e,l,w,m,n⟩:=BX k;have hl:z.cps.toList.length=z.length:=by simp[Str.length]
 rw[hl]at e m n;have hn:=rJ;exact tail_any (u6 s z t) slot_str_getitem.lookup (getItem_str (by rw[vr (by omega),vr (by omega),Bool.or_false]) (by rw[e];simpa using l) ⟨.str ⟨#[c]⟩,H,I.tok _,⟨_,rfl⟩,q⟩) hs
def G2 (K:Z5):R2:=λx y H Q=>wA K x y H Q\/wB K x y H Q\/wC x y H Q
theorem M4:kQ X (G2 X.K):=MY.or (MZ.or BY)
theorem M5 (a:List Value)(n j:Nat)(u:Value):Obj.mapSeq (·.setIfInBounds j u) {cls:=.type "list",data:=.seq a.toArray n}={cls:=.type "list",data:=.seq (a.set j u).toArray n}:=by simp[Obj.mapSeq]
theorem Inv.lst {pins:List (Addr×Obj)}{σ:St}{H:Hp}{s:ak}{p:Addr}{xs:List V}(I:Inv X pins σ H s)(h:H p=Z9 (.lst xs)):
  ∃its n,Vals xs its/\s.heap.get? p=Z9 {cls:=.type "list",data:=.seq its.toArray n}/\xs.length<=bf:=by
 obtain⟨z,its,n,r,e⟩:=I.hok p _ h;exact⟨its,n,r,e,z⟩
theorem Inv.lstUpd {a:List Value}(I:Inv X c d H s)(h:H p=Z9 (.lst i))
  (ho:s.heap.get? p=Z9 {cls:=.type "list",data:=.seq a.toArray n}) (hf:f {cls:=.type "list",data:=.seq a.toArray n}={cls:=.type "list",data:=.seq iM.toArray n'}) (r:Vals ys iM) (g:ys.length<=bf) t:
  Inv X c d (upd H p (.lst ys)) {s with heap:=s.heap.update p f,toks:=t}:=by
 have e:(s.heap.update p f).get? p=Z9 {cls:=.type "list",data:=.seq iM.toArray n'}:=by rw[j3 f ho (by rw[hf]<;>rfl),hf]
 refine I.write (by rw[h];trivial) (.inl rfl) (λb u hb q=>(gn _ _ (Ne.symm hb)).trans q) ⟨_,e⟩ ?_;exact⟨g,iM,n',r,e⟩
def G3:V->V->V->Hp->(Hp->Prop)->Prop:=λo i v H Q=>∃p xs k j,o=.ref p/\i=.int k/\H p=Z9 (.lst xs)/\iG xs.length k=Z9 j/\Q (upd H p (.lst (xs.set j v)))
theorem set_list:BH X G3:=by
 rintro a s h H o i v ov z u Q I l m rv ⟨p,w,k,j,rfl,rfl,d,x,q⟩
 cases l;obtain⟨t,rfl⟩:=m;obtain⟨b,n,r,ho,y⟩:=I.lst d;obtain⟨c,A,e,f⟩:=G0 x;have hl:=r.length;have hn:=rJ;have g:Inv X a h (upd H p (.lst (w.set j v))) {s with heap:=s.heap.update p (Obj.mapSeq (·.setIfInBounds j u))}:=I.lstUpd d ho (M5 b n j u) (r.set rv j) (by rw[cg];exact y) s.toks;by_cases h0:0<=k
 .have hk:k.toNat=j:=by
   rw[ur h0 f]at c;exact vn c
  exact W.ki_setAt ho h0 (by omega) (by rw[bw,<-hl];exact f) (hk▸⟨_,g,q⟩)
 .have hk:(k+b.toArray.size).toNat=j:=by
   rw[ua (by omega) e]at c;rw[bw,<-hl];exact vn c
  exact W.ki_setBack ho (by omega) (by rw[bw,<-hl];exact e) (by omega) (hk▸⟨_,g,q⟩)
theorem M6 (a b:Option Int)(n:Nat):(k9 a b Z8 n).1=((HT.aT n 0 a:Nat):Int)/\(k9 a b Z8 n).2.1=((HT.aT n n b:Nat):Int)/\(k9 a b Z8 n).2.2=1:=by
 refine⟨?_,?_,rfl⟩
 .cases a with
  |none=>simp[k9,HT.aT]
  |some i=>
   simp only[k9,HT.aT,Option.getD_none,show 1>0 by decide,if_true];by_cases h:i<0
   .simp only[h,if_true]<;>omega
   .simp only[h,if_false]<;>omega
 .cases b with
  |none=>simp[k9,HT.aT]
  |some i=>
   simp only[k9,HT.aT,Option.getD_none,show 1>0 by decide,if_true];by_cases h:i<0
   .simp only[h,if_true]<;>omega
   .simp only[h,if_false]<;>omega
theorem M7 (a:List Value)(b c:Option Int):slicePick a.toArray b c Z8=((a.drop (HT.aT a.length 0 b)).take (HT.aT a.length a.length c-HT.aT a.length 0 b)).toArray:=by obtain⟨d,e,f⟩:=M6 b c a.toArray.size;unfold slicePick;rw[d,e,f];simp only[qp,pick_run,bw]<;>rfl
def wD (K:Z5):V->Option Int->Option Int->Hp->VK->Prop:=λx lo hi H Q=>∃a xs,x=.ref a/\SqL K H a xs/\∀p,H p=Z8->Q (.ref p) (upd H p (.lst (oA xs lo hi)))
theorem M8:nG X (wD X.K):=by
 rintro f s k H x v l m e g sl Q I h hs pl pu ⟨a,c,rfl,hx,q⟩
 cases h;obtain⟨i,r,ht,j⟩:=I.list hx;have d:=r.length;refine⟨"list",_,slot_list_getitem.lookup,ht.isList.typeIs,?_⟩;refine wpAny_getItem_list_slice ht.isList hs pl pu .none (by simp) ?_ (by rw[bw]<;>omega);rw[M7,<-d];refine⟨.ref s.heap.objs.size,_,I.laid (λb n q=>af _ q) (ah _) ?_,rfl,q _ (I.hok.fresh (ah _))⟩;exact⟨cc (GY c e g) j,_,0,(r.drop (HT.aT c.length 0 e)).take (HT.aT c.length c.length g-HT.aT c.length 0 e),b6 _ rfl⟩
theorem M9:CallR X (.builtin "len") (λf H Q=>∃p b,f=[.ref p]/\(SqL X.K H p b\/cL X.K H p b)/\Q (.int b.length) H):=by
 rintro g s i H f j Q I r ⟨p,b,rfl,c,q⟩
 obtain⟨u,rfl,rfl⟩:=vals1 r;have hn:=rJ;rcases c with c|c
 .obtain⟨d,e,pl,h⟩:=I.list c;have a:=e.length;exact Calls.call_len_list pl.isList (by simp<;>omega) ⟨.int b.length,H,I.tok _,⟨s.toks+1,by rw[bw,a]⟩,q⟩
 .obtain⟨d,e,pl,h⟩:=I.tuple c;have a:=e.length;exact len_tuple pl (by simp<;>omega) ⟨.int b.length,H,I.tok _,⟨s.toks+1,by rw[bw,a]⟩,q⟩
theorem Na:CallR X (.builtin "len") (λa H Q=>∃z,a=[.str z]/\z.length<=bf/\Q (.int z.length) H):=by
 rintro b s c H a d Q I r ⟨z,rfl,e,q⟩
 obtain⟨u,rfl,t,rfl⟩:=vals1 r;have hn:=rJ;exact len_str (by omega) ⟨.int z.length,H,I.tok _,⟨_,rfl⟩,q⟩
theorem CallR.or (h:CallR X f r)(g:CallR X f i):CallR X f (λb H Q=>r b H Q\/i b H Q):=by
 intro a s c H b d Q I e q;rcases q with q|q
 .exact h a s c H b d Q I e q
 .exact g a s c H b d Q I e q
theorem Nb:CallR X (.type "list") (λv H Q=>∃p d,v=[.ref p]/\(SqL X.K H p d\/cL X.K H p d)/\∀l,H l=Z8->Q (.ref l) (upd H l (.lst d))):=by
 rintro h s y H v z Q I r ⟨p,d,rfl,i,q⟩
 obtain⟨u,rfl,rfl⟩:=vals1 r
 have j:∀a,Vals d a->d.length<=bf->∀c f,(∀b x,s.heap.get? b=Z9 x->c.get? b=Z9 x)->
   c.get? s.heap.objs.size=Z9 {cls:=.type "list",dict:=Z8,data:=.seq a.toArray f,slots:=#[]}->EP X h y Q (.ref s.heap.objs.size) {s with heap:=c}:=λa g k c f kp e=>
  ⟨.ref s.heap.objs.size,_,I.laid kp (ah _) (show z14 X.prog X.w _ c _ (.lst d)from⟨k,a,f,g,e⟩),rfl,q _ (I.hok.fresh (ah _))⟩
 rcases i with i|i
 .obtain⟨a,g,pl,k⟩:=I.list i;have m:=g.length;obtain⟨o,ho,t,n,hd⟩:=pl.isList;exact call_list_seq p (.inl rfl) ho t hd (λc f kp e=>j a g k c f kp e) (by simp<;>omega)
 .obtain⟨a,g,pl,k⟩:=I.tuple i;have m:=g.length;obtain⟨o,ho,t,n,hd⟩:=pl;exact call_list_seq p (.inr rfl) ho t hd (λc f kp e=>j a g k c f kp e) (by simp<;>omega)
theorem Nc:CallR X (.type "tuple") (λj H Q=>∃p d,j=[.ref p]/\((SqL X.K H p d/\∀l,H l=Z8->Q (.ref l) (upd H l (.tup d)))\/(cL X.K H p d/\Q (.ref p) H))):=by
 rintro a s k H j w Q I r ⟨p,d,rfl,h⟩
 obtain⟨u,rfl,rfl⟩:=vals1 r;rcases h with⟨g,q⟩|⟨g,q⟩
 .obtain⟨c,i,pl,m⟩:=I.list g;have n:=i.length;refine call_tuple_list pl.isList (λf kp=>?_) (by simp<;>omega);have t:Inv X a k H {s with heap:=f}:=I.kept kp;have v:Inv X a k (upd H f.objs.size (.tup d)) {s with heap:=f.push {cls:=.type "tuple",data:=.seq c.toArray}}:=t.laid (λb o e=>af _ e) (ah _) (⟨m,c,i,TupN.new _ _⟩);exact⟨.ref f.objs.size,_,v,rfl,q _ (t.hok.fresh (ah _))⟩
 .obtain⟨c,i,pl,m⟩:=I.tuple g;exact call_tuple_same pl ⟨.ref p,H,I,rfl,q⟩
def tyV (K:Z5)(T:String)(x:V)(H:Hp):Prop:=match x with
 |.str _=>T="str"
 |.int _=>T="int"
 |.ref p=>(T="list"/\∃xs,SqL K H p xs)\/(T="tuple"/\∃o,K.lookup p=Z9 o/\o.cls=.type "tuple"/\o.dict=Z8)\/(T="dict"/\∃kvs,H p=Z9 (.dK kvs))
 |_=>False
theorem zno (I:Inv X pins σ H s)(r:RelV x v)(ty:tyV X.K T x H):
  s.TypeIs v T/\∀a,v=.ref a->∃ob,s.heap.get? a=Z9 ob/\ob.dict=none:=by
 cases x with
 |str z=>obtain⟨t,rfl⟩:=r;cases ty;exact⟨u6 s z t,λ_ e=>nomatch e⟩
 |int i=>obtain⟨t,rfl⟩:=r;cases ty;exact⟨typeIs_int s i t,λ_ e=>nomatch e⟩
 |ref p=>
  cases r;rcases ty with⟨rfl,xs,hq⟩|⟨rfl,o,hk,hc,hd⟩|⟨rfl,kvs,hk⟩
  .obtain⟨its,_,pl,_⟩:=I.list hq;refine⟨pl.isList.typeIs,λa e=>?_⟩;cases e;obtain⟨o,n,e,c,hd,_⟩:=pl;exact⟨o,e,hd⟩
  .refine⟨⟨o,I.eY p o hk,hc⟩,λa e=>?_⟩;cases e;exact⟨o,I.eY _ o hk,hd⟩
  .obtain⟨_,_,_,_,o,_,_,e,ex,_⟩:=I.hok p _ hk;refine⟨⟨o,e,ex.1⟩,λa e2=>?_⟩;cases e2;exact⟨o,e,ex.2.1⟩
 |_=>exact False.elim ty
def Nd (K:Z5)(T:String)(r:V->List V->Hp->VK->Prop)(to:TE)(t:TA):TE:=λσ H Q=>to σ H λx H1=>tyV K T x H1/\t σ H1 λxs H2=>r x xs H2 Q
variable {o e:Expr}{es:List Expr}{to:TE}{t:TA}{name:Str}{apos cpos:Pos}{T id:String}{r:V->List V->Hp->VK->Prop}
theorem zki (m:PlainAttrs T)(slot:Slot T name id)(g:uq (.builtin id)=pure (.type "method_descriptor"))(hm:MtR X id r)(ho:PE X o to)(ha:PA X (e::es) t)
  (c:ma o name X.env (eval o X.env)=eval o X.env:=by rfl)
  (f:((kj cpos (eo (e::es) X.env)).all (λx=> !x.1)&&(t5 cpos (og [] X.env)).all (λx=>x.1.isSome)
   &&decide ((e::es).length+([]:List m6).length+(if([]:List m6).isEmpty then 0 else 1)<30))=true:=by rfl)
  (d:(apos.endLine==cpos.line)=true:=by rfl) (hs:eo (e::es) X.env=(Z6,eval e X.env)::eo es X.env:=by rfl) (b:(kj cpos (eo es X.env)).any (·.1)=false:=by rfl):
  PE X (.Call (.Attribute o name apos) (e::es) [] cpos) (Nd X.K T r to t):=by
 intro a s i H Q I h;refine wpAny_Call_method_late c f d rfl (aI (ho a s i H _ I h) λv n ⟨x,p,j,k,ty,q⟩=>?_);obtain⟨u,w⟩:=zno j k ty;refine⟨T,id,m,slot,g,u,w,?_⟩;have l:=ha cpos a n i p _ j q;rw[hs]at l ⊢;refine Calls.callWith_builtin (by show(Z6||(kj cpos (eo es X.env)).any (·.1))=Z6;rw[b]<;>rfl) (qq ?_);exact aI l λy z ⟨A,B,C,D,E⟩=>hm a z i B x A v y Q C k D E
end
def G4 (X:Cx)(id:String)(r:V->List V->Hp->VK->Prop):Prop:=∀(pins:List (Addr×Obj)) (s:ak) (σ:St) (H:Hp) (x:V) (xs:List V) (v:Value) (us:List Value) (Q:VK),Inv X pins σ H s->RelV x v->Vals xs us->r x xs H Q->wpAny (model X.prog X.w) X.A (call (.builtin id) (v::us)) (EP X pins σ Q) X.xe s
theorem Vals.one (h:Vals [x] a):∃u,a=[u]/\RelV x u:=by
 cases h with
 |cons r h=>cases h;exact⟨_,rfl,r⟩
theorem Vals.two (h:Vals [x,y] a):∃u v,a=[u,v]/\RelV x u/\RelV y v:=by
 cases h with
 |cons r h=>cases h with
  |cons q h=>cases h;exact⟨_,_,rfl,r,q⟩
theorem Vals.zero:∀{a:List Value},Vals [] a->a=[]
 |_,.nil=>rfl
theorem Vals.reverse {xs:List V}{us:List Value}(h:Vals xs us):Vals xs.reverse us.reverse:=by
 induction h with
 |nil=>exact .nil
 |cons r t ih=>rw[uc,uc];exact Vals.append ih (.cons r .nil)
theorem Vals.rep (h:Vals a b):∀k,Vals (b8 k a).flatten (b8 k b).flatten
 |0=>.nil
 |k+1=>by exact Vals.append h (Vals.rep h k)
section
variable {X:Cx}{pins:List (Addr×Obj)}{σ:St}{H:Hp}{s:ak}{l b:Addr}{xs ys zs:List V}
theorem Inv.lset {a:List Value}(I:Inv X pins σ H s)(b:H l=Z9 (.lst xs))
  (e:s.heap.get? l=Z9 {cls:=.type "list",data:=.seq a.toArray n}) (hf:f a.toArray=iM.toArray) (c:Vals ys iM) (d:ys.length<=bf):
  Inv X pins σ (upd H l (.lst ys)) {s with heap:=s.heap.update l (Obj.mapSeq f),toks:=t'}:=by
 have q:=PySem.IsL.update e f;rw[hf]at q;refine I.write (b▸trivial) (.inl rfl) (λg u hb hu=>(gn s.heap (Obj.mapSeq f) (Ne.symm hb)).trans hu) ⟨_,q⟩ ?_;exact⟨d,iM,_,c,q⟩
theorem Inv.lnew (I:Inv X pins σ H s)(b:Vals ys a)(c:ys.length<=bf):
  Inv X pins σ (upd H s.heap.objs.size (.lst ys)) {s with heap:=s.heap.push {cls:=.type "list",data:=.seq a.toArray},toks:=t'}:=
 I.laid (λ_ _ q=>af _ q) (ah _) ⟨c,a,0,b,b6 _ rfl⟩
theorem Inv.fresh (I:Inv X pins σ H s):H s.heap.objs.size=none:=I.hok.fresh (ah _)
theorem Inv.oB (I:Inv X pins σ H s)(b:H l=Z9 (.lst xs)):xs.length<=bf/\∃a n,Vals xs a/\xs.length=a.length/\s.heap.get? l=Z9 {cls:=.type "list",data:=.seq a.toArray n}:=by obtain⟨z,a,n,r,e⟩:=I.hok l _ b;exact⟨z,a,n,r,r.length,e⟩
theorem Nf (h:n<=bf):kq n=false:=vr (by omega)
end
section
variable {X:Cx}
def Ng:V->List V->Hp->VK->Prop:=λx vs H Q=>∃l xs y,x=.ref l/\vs=[y]/\H l=Z9 (.lst xs)/\xs.length<bf/\Q .bU (upd H l (.lst (xs++[y])))
theorem G5:G4 X "list.append" Ng:=by
 rintro b s g H x h v i Q I d rv ⟨l,j,y,rfl,rfl,c,k,q⟩
 cases d;obtain⟨u,rfl,f⟩:=rv.one;obtain⟨z,a,n,r,hl,e⟩:=I.oB c;refine u7 F.slot_list_append ⟨_,e,rfl⟩ F.entry_list_append (F.args_list_append_2 _ _) (PySem.list_append l a.toArray n u (by grind)) ⟨e,?_⟩;refine⟨.bU,_,I.lset c e (by simp) (r.append (.cons f .nil)) ?_,rfl,q⟩;rw[ao,lw];omega
def wF:R2:=λx y H Q=>∃l b xs zs,x=.ref l/\y=.ref b/\H l=Z9 (.lst xs)/\H b=Z9 (.lst zs)/\xs.length+zs.length<=bf/\∀p,H p=Z8->Q (.ref p) (upd H p (.lst (xs++zs)))
theorem Nh:OpR X (iq .Add) wF:=by
 rintro d s p H x y v u Q I f g ⟨l,b,t,w,rfl,rfl,h,i,A,q⟩
 cases f;cases g;obtain⟨z,c,n,r,hl,e⟩:=I.oB h;obtain⟨B,a,C,j,k,m⟩:=I.oB i;refine PySem.P.add_list e m ?_ (by grind);have o:c.toArray++a.toArray=(c++a).toArray:=by simp
 rw[o];exact⟨.ref _,_,I.lnew (r.append j) (by grind),rfl,q _ I.fresh⟩
end
end L2
namespace Att
open PySem PySem.W PySem.Calls PyProof.Rows
theorem Ni:∀ns c,WellAll P h c (ns.map WData.int)->rh c ns:=by
 intro ns
 induction ns with
 |nil=>intro c w;cases w;exact .nil
 |cons n ns d=>
  intro c w;cases w with
  |cons a b=>cases a;exact .cons _ _ (d _ b)
theorem zbu {l:OpenLaw}(hn:l.most=Z9 n)
  (b:l.row.toRowW.claim.pre args=Z7) (i:WellAll P h c args):
  ∃a k ns,c=[ZU a]/\args=[WData.list (ns.map WData.int)]/\h.get? a=Z9 {cls:=.type "list",data:=.seq k.toArray}/\rh k ns/\ns.length<=n:=by
 have m:l.pre.holds [] {args:=args}=true:=(pre_splitW b).2;obtain⟨d,r,rfl,o,p⟩:=hasAllW_cons ((pre_splitW b).1);obtain rfl:=hasAllW_nil p;obtain⟨v,rfl,s⟩:=hasW_list o;obtain⟨ns,rfl⟩:=items_int s
 have e:ns.length<=n:=by
  have g:(WTm.not (.lt (.lit (.int n)) (.len (.arg 0)))).holds [] {args:=[.list (ns.map .int)]}=true:=by have g:=(holds_andW m).1;rw[hn]at g;exact g
  have j:=condW_of g (w_not (w_lt w_lit (w_len_list (w_arg rfl))));refine o9 λq=>?_
  first
   |(rw[vq q']at j;exact absurd j dc)
   |(simp at j;omega)
 cases i with
 |cons t u=>
  cases u;cases t with
  |list ho f=>exact⟨_,_,ns,rfl,rfl,ho,Ni ns _ f,e⟩
theorem Nj (l:OpenLaw)(args:List WData):l.row.toRowW.claim.post args (.bool Z7) args=true:=
 postW_of
  (show WShape.has [] (.bool Z7) .bool=Z7 by first|rfl|decide|simp[WShape.has,WShape.arms,WShape.armsAll])
  (show(WTm.eq .res (.lit (.bool Z7))).value [] {args:=args,res:=Z9 (.bool Z7),after:=args}=Z9 (.bool (Z7==Z7))from w_eq_bool (w_res rfl) w_lit) rfl
theorem attach_call {l:OpenLaw}
  (hn:l.most=Z9 n) (p:d.params.defaults=[])
  (call:∀w s₀ b mg s h o t cd c a g ns,
   Ground q loose [] B w s₀ mg s b.heap->C w b.heap->
   b.heap.get? h=Z9 o->o.data=.func (docDef d.name d.params d.body d.scope t cd c)->b.heap.CodeRec cd d.name->mg d.name=Z9 (.ref h)->
   b.heap.get? a=Z9 {cls:=.type "list",data:=.seq g.toArray}->rh g ns->ns.length<=n->b.gens=#[]->
   l8 (model l.prog w) ud (.call (.ref h) ⟨[.ref a],[]⟩) (λr m=>r=.ok (.ret (.bool Z7))/\OldK b.heap m.heap/\m.os=b.os/\m5 m.gens) b):
  WalkO q loose B C l.row.toRowW d [] (λf g=>PySem.call f g):=by
 intro w s₀ b mg s G Y h o t cd c D kV ho hd u y v E args z M i A F x H;obtain rfl:D=.none:=Dflts.none y p;obtain rfl:kV=.none:=Dflts.noKw y;obtain⟨a,g,ns,rfl,rfl,j,e,k⟩:=zbu hn i x;refine enter_call (py (call w s₀ b mg s h o t cd c a g ns G Y ho (fd_plain hd) u v j e k E) λr m I=>?_);obtain⟨rfl,J,K,L⟩:=I;exact⟨.inl ⟨.bool Z7,.bool Z7,[],rfl,λ_=>rfl,.bool Z7,Nj l _,λ_=>⟨List.Pairwise.nil,λ_ hm=>(nomatch hm)⟩⟩,J,K,L⟩
end Att
namespace L2
open PySem PySem.Spec PyProof.Rows
theorem G6:∀{a:List Value} {ns:List Int},rh a ns->Vals (ns.map V.int) a
 |_,_,.nil=>.nil
 |_,_,.cons n t h=>.cons ⟨t,rfl⟩ (G6 h)
def Only (H:Hp):Prop:=∀b,H b=Z8\/∃o xs,H b=Z9 (.eP o (.lst xs))
theorem zf0 {K:Z5}
  (I:K.In c.heap) (l:c.heap.Ns ce mg) (hb:c.heap.Ns uz J) (B:∀x:Str,x≠"__name__"->J x=eh x) (p:c.heap.NoLimit) (Q:c.gens=#[])
  (ha:c.heap.get? a=Z9 {cls:=.type "list",data:=.seq vs.toArray}) (L:rh vs ns) (hl:ns.length<=bf) (hr:Room k ud)
  (F:∀base,K.In base->base.Ns ce mg->FnOk P w K mg base CX k fa fd [x] sp) (j:∀s u,rf s fd ⟨[u],[]⟩ [(x,u)])
  (C:∀H,Only H->SqL K H a (ns.map V.int)->sp [.ref a] H (λv _=>v=.bl Z7) λ_ _ _=>False)
  (D:∀H e f,CX [] H c (λ_ _ _=>False) e f->False):
  l8 (model P w) ud (.call (.ref fa) ⟨[.ref a],[]⟩) (λr f=>r=.ok (.ret (.bool Z7))/\OldK c.heap f.heap/\f.os=c.os/\m5 f.gens) c:=by
 have rv:=G6 L
 have i:∀H,Only H->SqL K H a (ns.map V.int)->HOk P w H c.heap->(∀b,H b≠Z8->b=a)->(H a≠Z8->K.lookup a=Z8)->
   l8 (model P w) ud (.call (.ref fa) ⟨[.ref a],[]⟩) (λr f=>r=.ok (.ret (.bool Z7))/\OldK c.heap f.heap/\f.os=c.os/\m5 f.gens) c:=by
  intro H M R hok N S;have ze:∀{b:Addr} {o:Obj},c.heap.get? b=Z9 o->H b=Z8->(jM c.heap H).get? b=Z9 o:=λe n=>LJ e n
  have E:∀{b:Addr} {o:Obj} {es:Array DictEntry} {ep:Nat},c.heap.get? b=Z9 o->o.data=.dict es ep->H b=none:=λ{b o es ep} e d=>by
   cases q:H b with
   |none=>rfl
   |some u=>have G:=N b (by rw[q];simp);subst G;rw[ha]at e;cases e;cases d
  have g:∀{b:Addr} {m:Str->Option Value},c.heap.Ns b m->(jM c.heap H).Ns b m:=λ{b m} ⟨o,es,ep,e,d,r⟩=>⟨o,es,ep,ze e (E e d),d,r⟩
  have t:=λb o e=>ze (I b o e) (by
   cases q:H b with
   |none=>rfl
   |some u=>have G:=N b (by rw[q];simp);subst G;rw[S (by rw[q];simp)]at e;cases e)
  refine py ((F _ t (g l)).run ud [] c H ⟨[.ref a],[]⟩ [.ref a] [.ref a] _ _ hr ⟨rfl,⟨t,g l,⟨J,g hb,B⟩,let⟨mc,h1,h2⟩:=p;⟨mc,g h1,h2⟩⟩,λb o e=>LK e,Nat.le_of_eq (LI _ _),trivial,λb hb=>absurd (show b∈([]:List Addr)from hb) (by simp),hok,.of_eq Q⟩ (j c (.ref a)) (.cons rfl .nil) (C H M R)) λr f h=>?_;cases r with
  |error e=>exact(D H e f h).elim
  |ok T=>
   cases T with
   |next=>exact False.elim h
   |brk=>exact False.elim h
   |cont=>exact False.elim h
   |ret u=>
    obtain⟨v,H',os,bare,un,y,r',rfl⟩:=h;obtain rfl:u=Value.bool true:=r';refine⟨rfl,OldK.of_keep λb o e=>?_,os,bare⟩;cases q:H b with
    |none=>exact un.keep b o e q (by intro z;exact absurd (show b∈([]:List Addr)from z) (by simp)) (by simp)
    |some u=>
     rcases M b with z|⟨ob,xs,z⟩
     .rw[q]at z;cases z
     .have z2:=un.bR b ob _ z;obtain⟨O,_⟩:=hok b _ z;obtain⟨e2,_⟩:=y b _ z2;rw[e]at O;cases O;exact e2
 cases hk:K.lookup a with
 |some o=>have e:=I a o hk;rw[ha]at e;cases e;refine i (λ_=>Z8) (λ_=>.inl rfl) (.inr ⟨_,vs.toArray,_,hk,rfl,rfl,rfl,by rw[bw,L.length];exact hl,by simpa using rv⟩) (λb u z=>by have A:Z8=Z9 u:=z;cases A) (λb z=>absurd rfl z) λz=>absurd rfl z
 |none=>
  refine i (λb=>if b=a then Z9 (.eP {cls:=.type "list",data:=.seq vs.toArray} (.lst (ns.map V.int)))else Z8) (λb=>?_) (.inl (.inr ⟨{cls:=.type "list",data:=.seq vs.toArray},vh rfl⟩)) (λb u z=>?_) (λb z=>?_) λ_=>hk
  .by_cases hb:b=a
   .exact .inr ⟨_,_,vh hb⟩
   .exact .inl (vm hb)
  .by_cases hb:b=a
   .have A:=(vh hb).symm.trans z;cases A;subst hb;exact⟨ha,by rw[ae];exact hl,vs,_,rv,ha⟩
   .have A:=(vm hb).symm.trans z;cases A
  .by_cases hb:b=a
   .exact hb
   .exact absurd (vm hb) z
theorem walk_of {l:W.OpenLaw}{K:i5->Z5}{CX:World->CXT}{sp:World->Sp}
  (hn:l.most=Z9 n) (hn2:n<=bf) (hdf:d.params.defaults=[]) (hr:Room k ud)
  (hY:∀w h,YP w h->(K w.params).In h)
  (F:∀w mg fa h,(K w.params).In h->h.Ns ce mg->mg d.name=Z9 (.ref fa)->∃fd,(∀s u,rf s fd ⟨[u],[]⟩ [(x,u)])/\∀base,(K w.params).In base->base.Ns ce mg->FnOk l.prog w (K w.params) mg base (CX w) k fa fd [x] (sp w))
  (kR:∀w H a (ns:List Int),ns.length<=n->Only H->SqL (K w.params) H a (ns.map V.int)->sp w [.ref a] H (λv _=>v=.bl Z7) λ_ _ _=>False)
  (Nk:∀w H s e s',CX w [] H s (λ_ _ _=>False) e s'->False):
  W.WalkO q loose XP YP l.row.toRowW d [] (λf vs=>PySem.call f vs):=by
 refine Att.attach_call hn hdf λw s₀ rO mg mb fa o pm cd doc a vs ns G Y ho hd hcd BZ rP hints hlen hg=>?_;have KX:=hY w _ Y;obtain⟨fd,hb,hF⟩:=F w mg fa _ KX G.T.g BZ;exact zf0 KX G.T.g G.T.b G.T.builtins G.T.nolimit hg rP hints (cc hlen hn2) hr hF hb (λH hO hS=>kR w H a ns hlen hO hS) λH e s'=>Nk w H rO e s'
def lK (s:Stmt):Arguments:=match s with
 |.FunctionDef _ a _ _ _ _ _ _ _ _=>a
 |_=>{posonlyargs:=[],args:=[],vararg:=Z8,kwonlyargs:=[],kw_defaults:=[],kwarg:=Z8,defaults:=[]}
def z0m (s:Stmt):List Stmt:=match s with
 |.FunctionDef _ _ b _ _ _ _ _ _ _=>b
 |_=>[]
def z08 (s:Stmt):Scope:=match s with
 |.FunctionDef _ _ _ _ _ _ sc _ _ _=>sc
 |_=>{kind:=.function,names:=[],isGenerator:=Z6,isCoroutine:=Z6}
abbrev kS:CXT:=λ_ _ _ _ _ _=>False
abbrev E0:XK:=λ_ _ _=>False
theorem Nl:zc8 kS X E0:=λ_ _ _ _ _ _ _ h=>h.elim
structure Fun (K:Z5)(x qual:Str)(st:Stmt)(f:Addr)(fd:ko):Prop where
 ex:∃(oc:Value) (od:Option Addr) (kV doc pm:Value) (an:Option Addr) (kT ct:Value) (B1:Array (Option Value)),fd=W.fnOf x qual (lK st) (z0m st) (z08 st) .none kV doc pm an kT ct/\K.lookup f=Z9 ⟨oc,od,.func fd,B1⟩/\W.codeIn K kT qual=Z7
 kp:W.keepIn K (.ref f)=Z7
section
variable {P:bu}{w:World}{K:Z5}{mg:Str->Option Value}{base:Heap}
theorem Fun.ok {st:Stmt}(F:Fun K x b st f fd)(S:FnScope N ps (z08 st))(len:∀c H Q E,i c H Q E->c.length=ps.length)
  (d:∀a A outer s H c Q E,Room k (A.deeper (qo b (z08 st) s.heap.objs.size f a))->i c H Q E->∃t,PSs (fO kS P w K mg base N b (z08 st) f a A outer s H E).lI (z0m st) t/\t {nx:=λ_ j=>Q .bU j,rt:=Q} (start N c) H):FnOk P w K mg base kS (k+1) f fd ps i:=by
 obtain⟨oc,od,kV,l,o,an,a,ct,m,rfl,n,e⟩:=F.ex;refine zis n e S len λA outer s H c Q E hr g=>?_;obtain⟨t,h,q⟩:=d a A outer s H c Q E hr g;exact⟨t,h.lI,q⟩
theorem Fun.binds {st:Stmt}(F:Fun K x c st f fd)
  (h:∀kV a d an b ct e,e.length=ps.length->u4 (W.fnOf x c (lK st) (z0m st) (z08 st) .none kV a d an b ct) ⟨e,[]⟩=pure (ps.zip e)):Binds K fd ps []:=by
 obtain⟨oc,od,kV,a,d,an,b,ct,g,rfl,j,i⟩:=F.ex;exact .all (h kV a d an b ct)
theorem B2 {st:Stmt}{kV:Value}(l:K.lookup f=Z9 ⟨oc,od,.func (W.fnOf x a (lK st) (z0m st) (z08 st) .none kV d g an b ct),e⟩) (c:W.codeIn K b a=Z7) (k:W.keepIn K (.ref f)=Z7):Fun K x a st f (W.fnOf x a (lK st) (z0m st) (z08 st) .none kV d g an b ct):=⟨⟨oc,od,kV,d,g,an,b,ct,e,rfl,l,c⟩,k⟩
end
theorem fQ {B:Prop}(h:B):if Z6=Z7 then A else B:=h
theorem fR {B:Prop}(h:A):if Z7=Z7 then A else B:=h
def Same (H H':Hp):Prop:=∀b o,H b=Z9 o->H' b=Z9 o
theorem Same.refl (H:Hp):Same H H:=λ_ _ h=>h
theorem Same.trans (a:Same H d)(b:Same d e):Same H e:=λc o h=>b c o (a c o h)
theorem Same.free (e:Same H H')(h:H' l=Option.none):H l=Option.none:=by
 cases q:H l with
 |none=>rfl
 |some o=>rw[e l o q]at h;cases h
theorem Same.seq {K:Z5}(e:Same H H')(h:SqL K H a xs):SqL K H' a xs:=by
 rcases h with(h|⟨o,h⟩)|h
 .exact .inl (.inl (e _ _ h))
 .exact .inl (.inr ⟨o,e _ _ h⟩)
 .exact .inr h
section
variable {X:Cx}
theorem Nm:CallR X (.builtin "len") (λc H Q=>∃a b,c=[V.ref a]/\H a=Z9 (.dK b)/\Q (.int b.length) H):=by
 rintro d s f H c g Q I r ⟨a,b,rfl,ha,q⟩
 obtain⟨u,rfl,rfl⟩:=vals1 r;exact MI I (.inl ha) λt h e=>⟨.int b.length,H,e,⟨t,rfl⟩,q⟩
end
end L2
set_option maxHeartbeats 5000000
namespace L2
open PySem PySem.Spec PyProof.Rows
def eQ (env:Env):List (Str×i3)->List (Str×Addr)->List (Str×Addr)
 | [],cs=>cs
 |(n,k)::r,cs=>eQ env r (if(k==.free)=Z7 then(n,(env.cells.lookup n).getD 0)::cs else cs)
theorem G7:∀l (a:List (Str×Addr)),(∃c,a.lookup x=Z9 c)->∃c,(eQ env l a).lookup x=Z9 c
 | [],a,h=>h
 |(n,k)::r,a,h=>by
  refine G7 r _ ?_;split
  .by_cases e:(x==n)=Z7
   .exact⟨_,by rw[ec,e]⟩
   .obtain⟨c,b⟩:=h;exact⟨c,by rw[ec,ue.mpr e];exact b⟩
  .exact h
theorem B3:∀(l:List (Str×i3)) cs,l.lookup x=Z9 .free->∃c,(eQ env l cs).lookup x=Z9 c
 | [],cs,h=>by simp at h
 |(n,k)::r,cs,h=>by
  rw[ec]at h;cases e:(x==n)with
  |true=>rw[e]at h;have a:=vn h;subst a;exact G7 r _ ⟨_,by rw[vh (by rfl),ec,e]⟩
  |false=>rw[e]at h;exact B3 r _ h
theorem zcp:∀l cs,(∀y∈l,y.2=.free->∃c,env.cells.lookup y.1=Z9 c)->(∀x c,cs.lookup x=Z9 c->env.cells.lookup x=Z9 c)->
  ∀x c,(eQ env l cs).lookup x=Z9 c->env.cells.lookup x=Z9 c
 | [],cs,_,h=>h
 |(n,k)::r,cs,i,h=>by
  refine zcp r _ (λy j=>i y (ba _ j)) λx c a=>?_;by_cases f:(k==NameKind.free)=Z7
  .rw[vh f,ec]at a;cases e:(x==n)with
   |true=>
    rw[e]at a;have g:x=n:=by simpa using e
    obtain⟨d,hd⟩:=i (n,k) a8 (by simpa using f);have b:=hd;rw[b]at a;rw[g,b];exact a
   |false=>rw[e]at a;exact h x c a
  .rw[vm f]at a;exact h x c a
theorem G8 (h:∀y∈scope.names,y.2=.free->∃c,env.cells.lookup y.1=Z9 c):closureFor scope env=pure (eQ env scope.names []):=by
 have go:∀l cs,(∀y∈l,y.2=.free->∃c,env.cells.lookup y.1=Z9 c)->
   (forIn l cs λx r=>if(x.2==NameKind.free)=Z7 then(do let a <-cellOf env x.1;pure (ForInStep.yield ((x.1,a)::r)):Sem _)else pure (ForInStep.yield r))=(pure (eQ env l cs):Sem _):=by
  intro l
  induction l with
  |nil=>intro cs _;rfl
  |cons y r i=>
   intro cs f;obtain⟨n,k⟩:=y;rw[List.forIn_cons];unfold eQ;by_cases b:(k==NameKind.free)=Z7
   .obtain⟨c,hc⟩:=f (n,k) a8 (by simpa using b);have d:=hc;have e:cellOf env n=pure c:=by unfold cellOf;rw[d]
    rw[vh b,vh b];rw[e,d];exact i ((n,c)::cs) λy g=>f y (ba _ g)
   .rw[vm b,vm b];exact i cs λy g=>f y (ba _ g)
 have:=go scope.names [] h
 first
  |exact this
  |(show(forIn scope.names [] _>>=λr=>pure r)=_;rw[show(forIn scope.names ([]:List (Str×Addr)) _:Sem _)=_ from this];rfl)
theorem za4 (hc:∀y∈scope.names,y.2≠.cell):
  (relabel scope env).names.lookup x=Z9 .cell\/(relabel scope env).names.lookup x=Z9 .free->scope.names.lookup x=Z9 .free:=by
 have go:∀(l:List (Str×i3)),(∀y∈l,y.2≠ .cell)->∀k,(k=NameKind.cell\/k=NameKind.free)->
   (l.map λ(n,k)=>if(k==.free&&env.scope.kind==.function&&env.kindOf n==Z9 .cell)then(n,NameKind.cell)else(n,k)).lookup x=Z9 k->l.lookup x=Z9 .free:=by
  intro l
  induction l with
  |nil=>intro _ k _ h;simp at h
  |cons y r g=>
   intro d k a h;obtain⟨n,q⟩:=y;rw[bp]at h;rw[ec];by_cases c:(q==NameKind.free&&env.scope.kind==.function&&env.kindOf n==Z9 .cell)=Z7
   .have b:q=.free:=by
     simp at c;simpa using c.1.1
    dsimp only at h
    rw[vh c,ec]at h;cases e:(x==n)with
    |true=>rw[b]
    |false=>rw[e]at h;exact g (λy f=>d y (ba _ f)) k a h
   .dsimp only at h
    rw[vm c,ec]at h;cases e:(x==n)with
    |true=>
     rw[e]at h;have b:=vn h;rcases a with a|a
     .exact absurd (b.trans a) (d (n,q) a8)
     .show Z9 q=Z9 .free;rw[b,a]
    |false=>rw[e]at h;exact g (λy f=>d y (ba _ f)) k a h
 rintro(h|h)
 .exact go scope.names hc .cell (.inl rfl) h
 .exact go scope.names hc .free (.inr rfl) h
def blk (X:Cx)(scope:Scope)(N':List Str)(C:Addr)(fp:List Addr)(s:ak)(H:Hp):Cx:={X with N:=N',s₀:=s,fL:=H,env:=compEnvC scope (eQ X.env scope.names []) C X.env,outer:=X.stack,stack:=X.stack,ex:=fp,fn:=λ_=>Z6,xe:=λ_ _=>False,fx:=Z8}
structure BlkScope (X:Cx)(scope:Scope)(N':List Str)(nt:Nat)(js:List Nat):Prop where
 kind:scope.kind=.function
 lL:∀y∈scope.names,y.2≠.cell
 names:∀y∈scope.names,y.2=.local->scope.names.lookup y.1=Z9 .local
 frees:∀y∈scope.names,y.2=.free->X.env.scope.names.lookup y.1=Z9 .cell\/X.env.scope.names.lookup y.1=Z9 .free
 nd:N'.Nodup
 len:N'.length=nt+js.length
 pl:∀(i j:Nat),js[i]?=Z9 j->N'[nt+i]?=X.N[j]?/\∃x,X.N[j]?=Z9 x/\scope.names.lookup x=Z9 .free
def rQ (NX:List Str)(G9 scope:Scope)(N':List Str)(nt:Nat)(js:List Nat):Bool:=
 (scope.kind==.function)&&scope.names.all (λy=>!(y.2==.cell))&&scope.names.all (λy=>!(y.2==.local)||(scope.names.lookup y.1==Z9 .local))&&
 scope.names.all (λy=>!(y.2==.free)||(G9.names.lookup y.1==Z9 .cell)||(G9.names.lookup y.1==Z9 .free))&&decide N'.Nodup&&(N'.length==nt+js.length)&&
 (N'.drop nt==js.map λj=>NX.getD j "")&&js.all (λj=>decide (j<NX.length)&&(scope.names.lookup (NX.getD j "")==Z9 .free))
theorem Nn (hN:X.N=f)(hs:X.env.scope=c)(h:rQ f c scope k l m=Z7):BlkScope X scope k l m:=by
 unfold rQ at h;simp only[a6,bb,decide_eq_true_eq,beq_iff_eq,fz,j4,beq_eq_false_iff_ne]at h;obtain⟨⟨⟨⟨⟨⟨⟨n,o⟩,p⟩,q⟩,r⟩,s⟩,t⟩,u⟩:=h;refine⟨n,o,λy d e=>(p y d).resolve_left (λz=>z e),λy d e=>?_,r,s,λi j g=>?_⟩
 .rw[hs];rcases q y d with(z|z)|z
  .exact absurd e z
  .exact .inl z
  .exact .inr z
 .obtain⟨a,b⟩:=u j (ck g);have e:X.N[j]?=Z9 (f.getD j ""):=by rw[hN,am,au a];rfl
  refine⟨?_,_,e,b⟩;rw[e,<-kx,t,a9,g];rfl
def fI (nt:Nat)(js:List Nat)(σ:St):St:=b8 nt Z8++js.map λj=>σ.getD j Z8
section
variable {X:Cx}{scope:Scope}{N':List Str}{nt:Nat}{js:List Nat}
theorem zkf (B:BlkScope X scope Q G R)(I:Inv X D J H s)
  (w:∀b∈fp,FpOk X D H b) (S:∀b∈fp,∃o,s.heap.get? b=Z9 o)
  (k:∀b o,s.heap.get? b=Z9 o->O.get? b=Z9 o) (hn:O.Ns s.heap.objs.size m1):
  Inv (blk X scope Q s.heap.objs.size fp s H) D (fI G R J) H {s with heap:=O,toks:=t1}:=by
 have g:∀x c,(eQ X.env scope.names []).lookup x=Z9 c->X.env.cells.lookup x=Z9 c:=zcp _ _ (λy P hf=>I.ok.has y.1 (B.frees y P hf)) (λx c h=>by simp at h);have lt:∀b o,s.heap.get? b=Z9 o->b≠s.heap.objs.size:=λb o e=>cz (bg e);refine⟨⟨I.ok.mod,B.kind,I.ok.glob,I.ok.blt,ah _,λx y c O h2=>I.ok.inj x y c (g x c O) (g y c h2),λx T=>B3 _ _ (za4 B.lL T),λx c h=>(by cases h),I.ok.hd,I.ok.frames,.inl rfl,λb E=>?_,I.bs,cc I.ok.iL I.sz,λb o e E=>?_,λb E T=>?_,I.stack,I.fN,λ_ _ z=>by cases z⟩,rfl,I.bare,Un.kept k,⟨m1,hn,λi x v e1 A e3=>?_⟩,λx c e=>?_,I.hok.fresh (ah _),λx c e=>I.bE x c (g x c e),λp hp=>?_,I.hok.kept k,?_,λ_ _ z=>by cases z⟩
 .obtain⟨o,K⟩:=S b E;exact⟨lt b o K,λx c h=>(w b E).2.2.2.2.1 x c (g x c h)⟩
 .rcases(w b E).2.2.2.1 with z|z
  .exact I.ok.gT b o e z
  .exact absurd (b7 (bg e) (cc I.ok.iL z)) (cj _)
 .rcases ay.mp (I.fM b T)with z|z
  .exact(w b E).2.1 z
  .exact(w b E).2.2.1 z
 .--a name with a value:one of Vh zf
  have hi:G<=i:=by refine o9 λh=>?_;unfold fI at A;rw[fm (ez▸h),gj,vh h]at A;cases A
  unfold fI at A;rw[dz (ez▸hi),ez,a9]at A;cases U:R[i-G]? with
  |none=>rw[U]at A;cases A
  |some j=>
   rw[U]at A;have C:J.getD j Z8=Z9 v:=vn A;obtain⟨L,y,P,f⟩:=B.pl (i-G) j U;rw[ro hi]at L;have V:x=y:=by have M:Q[i]?=Z9 x:=e1;rw[L,P]at M;exact(vn M).symm
   subst V
   have W:J[j]?=Z9 (Z9 v):=by
    rw[am]at C;cases q:J[j]? with
    |none=>rw[q]at C;cases C
    |some z=>rw[q]at C;simp_all
   have N:=B.frees (x,.free) (PySem.mem_of_lookup f) rfl;obtain⟨m,Vi,hl⟩:=I.loc;obtain⟨u,r,l⟩:=hl j x v P W (N.elim (λz=>.inr (.inl z)) (λz=>.inr (.inr z)));refine⟨u,r,?_⟩;rcases l with⟨Y,_⟩|⟨Y,c,hc,F⟩
   .rcases N with z|z
    .have t:X.env.scope.names.lookup x=Z9 .local:=Y;rw[z]at t;cases t
    .have t:X.env.scope.names.lookup x=Z9 .local:=Y;rw[z]at t;cases t
   .obtain⟨d,hd⟩:=B3 scope.names [] f;have Z:d=c:=by have:=g x d hd;rw[hc]at this;cases this;rfl
    subst Z;refine .inr ⟨?_,d,hd,?_⟩
    .rcases e3 with z|z|z
     .exfalso
      have:∀(l:List (Str×i3)),l.lookup x=Z9 .free->(l.map λ(n,k)=>if(k==.free&&X.env.scope.kind==.function&&X.env.kindOf n==Z9 .cell)then(n,NameKind.cell)else(n,k)).lookup x≠Z9 .local:=by
       intro l
       induction l with
       |nil=>intro h;simp at h
       |cons y r ih=>
        intro h;obtain⟨n,q⟩:=y;rw[ec]at h;rw[bp]
        dsimp only
        cases e:(x==n)with
        |true=>
         rw[e]at h;have hq:=vn h;subst hq;split
         .rw[ec,e];intro z;cases z
         .rw[ec,e];intro z;cases z
        |false=>
         rw[e]at h;split
         .rw[ec,e];exact ih h
         .rw[ec,e];exact ih h
      exact this _ f z
     .exact .inl z
     .exact .inr z
    .obtain⟨o,K,uM⟩:=F;exact⟨o,k _ _ K,uM⟩
 .obtain⟨v,o,K,hd⟩:=I.cell x c (g x c e);exact⟨v,o,k _ _ K,hd⟩
 .obtain⟨q1,q2,q3,q4,q5⟩:=I.pin p hp;refine⟨k _ _ q1,q2,lt _ _ q1,λz=>?_,q5⟩;rcases ay.mp (I.fM p.1 z)with z|z
  .exact q3 z
  .exact q4 z
 .show(fI G R J).length=Q.length;unfold fI;rw[ao,ez,ae,B.len]
end
section
variable (M:Model)(A:fq)(env:Env)
abbrev fJ:Value->ak->Prop:=λ_ _=>False
def Np (acc:Value)(Z:ak->Prop)(x:Value):ak->Prop:=wpAny M A (call (.builtin "list.append") [acc,x]) (λ_=>Z) fJ
def B4 (elt:Expr)(acc:Value)(Z:ak->Prop)(ok:Bool)(s:ak):Prop:=if ok=Z7 then wpAny M A (eval elt env) (Np M A acc Z) fJ s else Z s
def Nq (ifs:List Expr)(elt:Expr)(acc:Value)(Z:ak->Prop):ak->Prop:=wpAny M A (forIn ifs Z7 λc r=>if r=Z7 then(qj c env (eval c env)>>=λok=>pure (ForInStep.yield ok))else pure (ForInStep.yield r)) (B4 M A env elt acc Z) fJ
def B5 (tg:Expr)(ifs:List Expr)(elt:Expr)(acc:Value)(Z:ak->Prop)(v:Value):ak->Prop:=wpAny M A (tm tg env v) (λ_=>Nq M A env ifs elt acc Z) fJ
def B6 (tg:Expr)(ifs:List Expr)(elt:Expr)(it acc:Value)(End Z:ak->Prop)(r:Option Value)(s:ak):Prop:=match r with
 |some v=>wpAny M A (mq tg it v) (λ_=>B5 M A env tg ifs elt acc Z v) fJ s
 |none=>End s
end
theorem zl0 (I:Nat->ak->Prop)
  (one:∀k t,I k t->wpAny (model P w) A (pyNext it) (B6 (model P w) A env g a b it c (R (.ok .next)) λi=>∃m,m<k/\I m i) fJ t) n (h:I n s):
  l8 (model P w) A (.compLoop (.ListComp b [⟨g,d,a,0⟩] scope pos) 0 it c env) R s:=by
 apply codeAny_loop rfl I _ n h;intro k t j;apply wpAny_noted;apply wpAny_noRaise;apply aa;apply wpAny_standAt;apply aa;refine aI (one k t j) ?_
 rintro(_|v) r e
 .exact av e
 apply aa;refine aI e λ_ u l=>?_;apply aa;refine aI l λ_ y o=>?_;apply aa;refine aI o ?_
 rintro(_|_) z f
 .exact av ⟨rfl,f⟩
 apply aa;apply aa;refine aI f λx B p=>?_;apply aa;exact aI p λ_ C q=>av (av ⟨rfl,q⟩)
theorem Un.but (u:Un fs ex H f h g)(i:h.get? C=Z8)(c:gi C g j):Un fs ex H f h j:=by
 have ne:∀b o,h.get? b=Z9 o->b≠C:=λb o e z=>by rw[z,i]at e;cases e
 exact⟨λb o e n d a=>c.extBut b o (ne b o e) (u.keep b o e n d a),λb o e n d a=>let⟨sl,q⟩:=u.slot b o e n d a;⟨sl,c.extBut b _ (ne b o e) q⟩,u.free,λb o e a=>let⟨o',q⟩:=u.there b o e a;⟨o',c.extBut b _ (ne b o e) q⟩,u.bV,u.bR,u.bW⟩
theorem HOk.but (ok:HOk P w H h)(d:H C=Z8)(f:gi C h g):HOk P w H g:=λa o e=>by
 refine(ok a o e).stay (λb u c q=>f.extBut b u (λz=>?_) q) (λ_ q=>q) λ_ _ q=>q;rcases c with c|c
 .rw[z]at c;rw[<-c,d]at e;cases e
 .rw[z,d]at c;cases c
def qC (X:Cx)(ifs:List Expr)(t:TT):Prop:=∀(pins:List (Addr×Obj)) (s:ak) (σ:St) (H:Hp) (Q:Bool->Hp->Prop),Inv X pins σ H s->t σ H Q->wpAny (model X.prog X.w) X.A (forIn ifs Z7 λc r=>if r=Z7 then do let ok <-qj c X.env (eval c X.env);pure (ForInStep.yield ok)else pure (ForInStep.yield r)) (TP X pins σ Q) X.xe s
def B7:TT:=λ_ H Q=>Q Z7 H
theorem Nr:qC X [] B7:=λ_ _ _ H _ I h=>wpAny_tests_nil ⟨H,I,h⟩
theorem Nt (h:PT X c t):qC X [c] t:=λa s b H Q I q=>wpAny_tests_one (h a s b H Q I q)
def iO (a b:St):Prop:=a.length=b.length/\∀(i:Nat) v,a[i]?=Z9 (Z9 v)->b[i]?=Z9 (Z9 v)
theorem iO.refl (a:St):iO a a:=⟨rfl,λ_ _ h=>h⟩
def zg (wi:TI)(g:TG)(tc:TT)(te:TE)(em:St->St):TE:=λσ H Q=>wi σ H λJ H1=>∀l,H1 l=Z8->∃P:Nat->Nat->List V->Hp->Prop,(∃m,P 0 m [] (upd H1 l (.lst [])))/\∀i m acc H2,P i m acc H2->(J.stop i H2/\Q (.ref l) H2)\/(J.go i H2/\acc.length<bf/\∃N:List V->Hp->Prop,(∀lM H',N lM H'->∃m',m'<m/\P (i+1) m' lM H')/\∀x H3,J.jO i H2 x H3->g x (em σ) H3 λjC H4=>iO (em σ) jC/\tc jC H4 λb H5=>if b=Z7 then te jC H5 λy H6=>H6 l=Z9 (.lst acc)/\N (acc++[y]) (upd H6 l (.lst (acc++[y])))else N acc H5)
section
variable {X:Cx}{scope:Scope}{N':List Str}{nt:Nat}{js:List Nat}{tg iter elt:Expr}{ifs:List Expr}{wi:TI}{g:TG}{tc:TT}{te:TE}{pos:Pos}
theorem z5c {Q:VK}{RR:Value->Addr->Result->ak->Prop}(hc:X.calm=Z7)(B:BlkScope X scope S nt js)
  (hg:∀C D s H,PG (blk X scope S C D s H) tg g) (ht:∀C D s H,qC (blk X scope S C D s H) ifs tc) (he:∀C D s H,PE (blk X scope S C D s H) elt te)
  (h2:y7 X a σ tg (λJ H1=>∀l,H1 l=Z8->∃P:Nat->Nat->List V->Hp->Prop,(∃m,P 0 m [] (upd H1 l (.lst [])))/\∀i m f K,P i m f K->(J.stop i K/\Q (.ref l) K)\/(J.go i K/\f.length<bf/\∃N:List V->Hp->Prop,(∀F t,N F t->∃m',m'<m/\P (i+1) m' F t)/\∀x H3,J.jO i K x H3->g x (fI nt js σ) H3 λjC H4=>iO (fI nt js σ) jC/\tc jC H4 λb H5=>
  if b=Z7 then te jC H5 λy H6=>H6 l=Z9 (.lst f)/\N (f++[y]) (upd H6 l (.lst (f++[y])))else N f H5)) wm j)
  (Nu:∀l C t U,(∃m,U.heap.Ns C m)->t C=Z8->C≠X.env.locals->C∉X.fs->(∀x c,X.env.cells.lookup x=Z9 c->c≠C)->X.s₀.heap.objs.size<=C->(∀p∈X.pn++a,p.1≠C)->(∀h',gi C U.heap h'->Inv X a σ t {U with heap:=h'})->Q (.ref l) t->RR (.ref l) C (.ok .next) U):
  wpAny (model X.prog X.w) X.A (newList []) (λf I=>wpAny (model X.prog X.w) X.A (newFunctionEnv scope X.env.globals (eQ X.env scope.names []) [] X.env.qual Z8 .none (Z9 X.env)) (λwG B8=>l8 (model X.prog X.w) X.A (.compStart (.ListComp elt [⟨tg,iter,ifs,0⟩] scope pos) 0 wm f {wG with scope:=relabel scope X.env}) (RR f wG.locals) B8) E I) E j:=by
 obtain⟨it,D,tn,J,K,rfl,I2,T,eZ,f2,q⟩:=h2;refine jc (wpAny_newFunctionEnv B.lL (by intro y hy;simp at hy) (λh₁ L M=>?_) B.kind);have wH:∀b∈D,∃o,j.heap.get? b=Z9 o:=λb h=>let⟨o,e,_⟩:=T.obj 0 _ eZ b h;⟨o,e⟩;have hl:=I2.hok.fresh (ah _);have W:=I2.lnew (t':=j.toks) .nil (e8 _);obtain⟨P,⟨m0,p0⟩,turn⟩:=q _ hl;generalize Nv:j.heap.push {cls:=.type "list",dict:=Z8,data:=.seq ([]:List Value).toArray}=G at L M W ⊢;generalize Ha:j.heap.objs.size=l at hl W p0 turn ⊢;have O:∀b o,j.heap.get? b=Z9 o->G.get? b=Z9 o:=λb o e=>Nv▸af _ e;have k:=λb o e=>M.extBut b o (cz (bg e)) (af _ e);have f3:∀b∈D,FpOk X a (upd K l (.lst [])) b:=λb h=>by obtain⟨o,e⟩:=wH b h;exact⟨by rw[aO (Ha▸cz (bg e))];exact(f2 b h).1,(f2 b h).2⟩
 have J0:=zkf (t1:=j.toks+([]:List (Str×Value)).length) B W f3 (λb h=>let⟨o,e⟩:=wH b h;⟨o,O b o e⟩) k L;have B9:∀{t:Hp},(∀b∈D,t b=Z8)->∀b∈D,FpOk (blk X scope S G.objs.size D {j with heap:=G,toks:=j.toks} (upd K l (.lst []))) a t b:=λhn b h=>⟨hn b h,(J0.ok.rD b h).1,J0.ok.gU b h,.inl h,(J0.ok.rD b h).2,(f2 b h).2.2.2.2.2⟩;have out:∀{t:Hp} {U:ak},Inv (blk X scope S G.objs.size D {j with heap:=G,toks:=j.toks} (upd K l (.lst []))) a (fI nt js σ) t U->∀h',gi G.objs.size U.heap h'->Inv X a σ t {U with heap:=h'}:=λ{t U} Jn h' sb=>by exact W.call' Jn.os (Un.but Jn.base (qi (ah _)) sb) (Jn.hok.but Jn.free sb) Jn.bare λb h=>⟨(f3 b h).2.2.2.1,(f3 b h).2.1,(f3 b h).2.2.2.2.1,(f3 b h).2.2.2.2.2⟩
 have nC:∀x c,X.env.cells.lookup x=Z9 c->c≠G.objs.size:=λx c e z=>by obtain⟨v,q⟩:=W.cell x c e;exact absurd q.lt (z▸cj _)
 have loop:∀I,I={j with heap:=h₁,toks:=j.toks+([]:List (Str×Value)).length}->
   l8 (model X.prog X.w) X.A (.compLoop (.ListComp elt [⟨tg,iter,ifs,0⟩] scope pos) 0 (.ref it) (.ref l) (compEnvC scope (eQ X.env scope.names []) G.objs.size X.env)) (RR (.ref l) G.objs.size) I:=by
  rintro I rfl
  refine zl0 (λn s'=>∃i f t,Inv (blk X scope S G.objs.size D {j with heap:=G,toks:=j.toks} (upd K l (.lst []))) a (fI nt js σ) t s'/\tn i s'.heap/\(∀b∈D,t b=Z8)/\P i n f t) ?_ m0 ⟨0,[],_,J0,T.keep _ _ _ eZ λb _ o e=>k b o (O b o e),λb h=>(f3 b h).1,p0⟩
  rintro n s3 ⟨i,f,H3,Jn,gV,Hb,w3⟩
  rcases turn i n f H3 w3 with⟨stop,qn⟩|⟨go,Nw,N,hN,step⟩
  .refine aI (T.done (blk X scope S G.objs.size D {j with heap:=G,toks:=j.toks} (upd K l (.lst []))) rfl rfl rfl hc i a s3 _ H3 (λ_ _=>False) Jn (B9 Hb) gV stop) λr s4 ⟨hr,I4⟩=>?_;subst hr;obtain⟨m,hn,_⟩:=id I4.loc;exact Nu l G.objs.size H3 s4 ⟨m,hn⟩ I4.free (Nat.ne_of_gt (W.lt)) (W.wd (ah _)) nC W.sz (λp hp=>cz (bg (W.pin p hp).1)) (out I4) qn
  .refine aI (T.item (blk X scope S G.objs.size D {j with heap:=G,toks:=j.toks} (upd K l (.lst []))) rfl rfl rfl hc i a s3 _ H3 (λ_ _=>False) Jn (B9 Hb) gV go) λr s4 ⟨u,hr,h4⟩=>?_;subst hr;refine aI h4 λ_ s5 ⟨x,H5,I5,r5,y5,Ca,Cb⟩=>aI (hg _ _ _ _ _ s5 _ H5 x u _ (I5.pinned (B9 Cb) (T.obj _ _ Ca)) r5 (step x H5 y5)) λ_ s6 ⟨σ6,H6,I6,kp,q6⟩=>aI (ht _ _ _ _ _ s6 σ6 H6 _ I6 q6) λb s7 ⟨H7,I7,q7⟩=>?_
   have R:∀{s7:ak} {H7:Hp} {F:List V},Inv (blk X scope S G.objs.size D {j with heap:=G,toks:=j.toks} (upd K l (.lst []))) (a++z6s D s5.heap) σ6 H7 s7->N F H7->
     ∃m,m<n/\∃i f t,Inv (blk X scope S G.objs.size D {j with heap:=G,toks:=j.toks} (upd K l (.lst []))) a (fI nt js σ) t s7/\tn i s7.heap/\(∀b∈D,t b=Z8)/\P i m f t:=λ{s7 H7 F} I7 w7=>by
    obtain⟨n',hm,w7⟩:=hN _ _ w7;refine⟨n',hm,i+1,F,H7,(I7.cE).weak kp.1 kp.2,T.keep _ _ _ Ca λb h o e=>(I7.pin (b,o) (ax _ (ax _ (uK h e)))).1,λb h=>?_,w7⟩;obtain⟨o,e,d⟩:=T.obj _ _ Ca b h;exact(I7.pin (b,o) (ax _ (ax _ (uK h e)))).2.1
   cases b with
   |false=>exact R I7 q7
   |true=>exact aI (he _ _ _ _ _ s7 σ6 H7 _ I7 q7) λy' s8 ⟨y,H8,I8,r8,Ny,w8⟩=>aI (G5 _ s8 σ6 H8 (.ref l) [y] (.ref l) [y'] (λ_ H9=>N (f++[y]) H9) I8 rfl (.cons r8 .nil) ⟨l,f,y,rfl,rfl,Ny,Nw,w8⟩) λ_ s9 ⟨v9,H9,I9,r9,w9⟩=>R I9 w9
 exact codeAny_compStart_list (loop _ rfl) (T.self _ 0 _ _ _ (T.keep _ _ _ eZ λb _ o e=>k b o (O b o e)) (loop _ rfl))
theorem zeq (hc:X.calm=Z7)(B:BlkScope X scope d k n)(o:PI X j a wi)
  (p:∀C b s H,PG (blk X scope d C b s H) j g) (r:∀C b s H,qC (blk X scope d C b s H) e tc) (t:∀C b s H,PE (blk X scope d C b s H) f te)
  (hs:∀x,gm a X.env x=pure x:=by intro _;rfl):PE X (.ListComp f [⟨j,a,e,0⟩] scope pos) (zg wi g tc te (fI k n)):=by
 intro c s u H Q I h;refine ox rfl hs (G8 λy w hf=>I.ok.has y.1 (B.frees y w hf)) B.kind B.names (aI (o c s u H _ I h) λv z A=>aI A λD K E=>?_);refine z5c hc B p r t E ?_;intro l C F z ns _ _ _ _ _ _ i q;obtain⟨m,hn⟩:=ns;exact⟨m,hn,λG J=>⟨.ref l,F,i G J,rfl,q⟩⟩
def Nz (i:Nat)(t:TE):TS:=λD σ H=>t σ H λv H1=>D.nx (σ.set i (Z9 v)) H1
theorem zgr (hc:X.calm=Z7)(hN:X.N.Nodup)(hy:X.N[i]?=Z9 y)(R:X.env.scope.names.lookup y=Z9 .local)(B:BlkScope X scope u nt js)(hi:PI X E a wi)
  (hg:∀C d s H,PG (blk X scope u C d s H) E g) (ht:∀C d s H,qC (blk X scope u C d s H) f tc) (he:∀C d s H,PE (blk X scope u C d s H) j te)
  (F:l5 (.ListComp j [⟨E,a,f,0⟩] scope pos) (Z9 (.Name y G)) k.line X.env=pure Z7)
  (hs:∀x,gm a X.env x=pure x:=by intro _;rfl):PS X (.Assign [.Name y G] (.ListComp j [⟨E,a,f,0⟩] scope pos) k) (Nz i (zg wi g tc te (fI nt js))):=by
 intro c s J H D I h;rw[exec_Assign_Name_used _ _ _ _ F];apply aa;apply wpAny_standAt;apply aa;refine aa (gk (ox (use:=Z9 (tm (.Name y G) X.env)) rfl hs (G8 λz hz hf=>I.ok.has z.1 (B.frees z hz hf)) B.kind B.names (aI (hi c s J H _ I h) λv K h1=>aI h1 λwm s2 h2=>?_)) (λ_ S hq=>av (av hq)) λ_ _ e=>e);refine z5c (Q:=λv H1=>D.nx (J.set i (Z9 v)) H1) (RR:=λL C=>compPost (model X.prog X.w) X.A X.xe (Z9 (tm (.Name y G) X.env)) (λ_ S=>SP X c D .next S) L C) hc B hg ht he h2 ?_;intro l C T K ns U V nF nC nS nP M q;obtain⟨m,hn⟩:=ns;have W:=M K.heap (.refl ..);obtain⟨t,es,ep,O,n,P⟩:=id hn
 have I2:Inv X (c++[(C,t)]) J T K:=W.eJ λp hp=>(d9.mp hp).elim (λz=>W.pin p (ax _ z)) λz=>by
  have e:p=(C,t):=by simpa using z
  subst e;exact⟨O,U,V,nF,λv z=>by have Y:=z;rw[n]at Y;cases Y⟩
 refine t0 (z6e I2 hN hy (.inl R) (v:=.ref l) rfl (λnE r=>?_) (.inr R));refine⟨m,⟨t,es,ep,(r.pin (C,t) (ax _ (ax _ (cq.mpr rfl)))).1,n,P⟩,λh' sb=>⟨_,T,?_,q⟩⟩;exact(r.cE).turned (λb o hb e=>sb.extBut b o hb e) U V (.inr nS) nC nP
end
theorem zv0 {J:It}{g:TG}{tc:TT}{te:TE}{Q:VK}(P:Nat->List V->Hp->Prop)(hn:n<=bf)(h0:P 0 [] (upd A l (.lst [])))
  (q:∀i a H,P i a H->a.length<=i)
  (h:∀a H,P n a H->J.stop n H/\Q (.ref l) H) (u:∀i a H,i<n->P i a H->J.go i H)
  (r:∀i a H x j,i<n->P i a H->J.jO i H x j->g x k j λc v=>iO k c/\tc c v λb s=>if b=Z7 then te c s λy t=>t l=Z9 (.lst a)/\P (i+1) (a++[y]) (upd t l (.lst (a++[y])))else P (i+1) a s):
  ∃P:Nat->Nat->List V->Hp->Prop,(∃m,P 0 m [] (upd A l (.lst [])))/\∀i m a f,P i m a f->(J.stop i f/\Q (.ref l) f)\/(J.go i f/\a.length<bf/\∃N:List V->Hp->Prop,(∀d w,N d w->∃z,z<m/\P (i+1) z d w)/\∀x j,J.jO i f x j->g x k j λc v=>iO k c/\tc c v λb s=>if b=Z7 then te c s λy t=>t l=Z9 (.lst a)/\N (a++[y]) (upd t l (.lst (a++[y])))else N a s):=by
 refine⟨λi m a H=>i<=n/\m=n-i/\P i a H,⟨n,e8 _,rfl,h0⟩,?_⟩
 rintro i m a f ⟨C,rfl,p⟩
 by_cases o:i<n
 .have D:=q i a f p;exact .inr ⟨u i a f o p,by omega,P (i+1),λd w B=>⟨n-(i+1),by omega,o,rfl,B⟩,λx j y=>r i a f x j o p y⟩
 .have e:i=n:=by omega
  subst e;exact .inl (h a f p)
section
variable {X:Cx}
def wI:V->Option Int->Option Int->Hp->VK->Prop:=λx lo hi H Q=>∃z,x=.str z/\z.length<=bf/\Q (.str (Txt.slice z lo hi)) H
theorem Hc:nG X wI:=by
 rintro b s h H x v r w m n sl Q I p hs pl f ⟨z,rfl,c,q⟩
 obtain⟨t,rfl⟩:=p;refine⟨"str",_,PySem.F.slot_str_getitem.lookup,u6 _ _ _,?_⟩;obtain⟨o,d,hc,hd⟩:=hs;have a:∀g k,EP X b h Q (.str (Txt.slice z m n) g) {s with toks:=k}:=λg k=>⟨.str _,H,I.tok _,⟨_,rfl⟩,q⟩;cases pl with
 |none=>
  cases f with
  |none=>exact jl (l:=Z8) (u:=Z8) (st:=Z8) ⟨o,d,hc,hd⟩ rfl (ms ⟨cc (Txt.slice_le z _ _) c,a⟩)
  |int j e=>exact jl (l:=Z8) (u:=Z9 (j,e)) (st:=Z8) ⟨o,d,hc,hd⟩ rfl (ms ⟨cc (Txt.slice_le z _ _) c,a⟩)
 |int i ti=>
  cases f with
  |none=>exact jl (l:=Z9 (i,ti)) (u:=Z8) (st:=Z8) ⟨o,d,hc,hd⟩ rfl (ms ⟨cc (Txt.slice_le z _ _) c,a⟩)
  |int j e=>exact jl (l:=Z9 (i,ti)) (u:=Z9 (j,e)) (st:=Z8) ⟨o,d,hc,hd⟩ rfl (ms ⟨cc (Txt.slice_le z _ _) c,a⟩)
end
def Own (K:Z5)(mg:Str->Option Value)(x:Str)(st:Stmt)(ps:List Str):Prop:=∃f fd,Fun K x x st f fd/\mg x=Z9 (.ref f)/\W.keepIn K (.ref f)=Z7/\Binds K fd ps []
def Cal (P:bu)(w:World)(K:Z5)(mg:Str->Option Value)(base:Heap)(k:Nat)(x:Str)(ps:List Str)(sp:Sp):Prop:=∃f fd,FnOk P w K mg base kS k f fd ps sp/\mg x=Z9 (.ref f)/\W.keepIn K (.ref f)=Z7/\Binds K fd ps []
section
variable {P:bu}{w:World}{K:Z5}{mg:Str->Option Value}{base:Heap}
theorem zqh {st:Stmt}{kV:Value}(X:K.In h)(G:h.Ns ce mg)
  (a:W.nsIn K ce x=Z9 (Z9 (.ref f))) (l:K.lookup f=Z9 ⟨oc,od,.func (W.fnOf x x (lK st) (z0m st) (z08 st) .none kV e i an d ct),j⟩) (c:W.codeIn K d x=Z7) (k:W.keepIn K (.ref f)=Z7)
  (b:∀kV e i an d ct g,g.length=ps.length->u4 (W.fnOf x x (lK st) (z0m st) (z08 st) .none kV e i an d ct) ⟨g,[]⟩=pure (ps.zip g)):Own K mg x st ps:=
 ⟨f,_,B2 l c k,W.mg_of X G a,k,(B2 l c k).binds b⟩
theorem Cal.imp (C:Cal P w K mg base k x ps sp)(h:∀vs H Q E,BV vs H Q E->sp vs H Q E):Cal P w K mg base k x ps BV:=by obtain⟨f,fd,F,r⟩:=C;exact⟨f,fd,F.imp h,r⟩
end
def isStar:Expr->Bool
 |.Starred ..=>Z7
 |_=>Z6
theorem jQ (h:isStar e=Z6):eo (e::a) env=(Z6,eval e env)::eo a env:=by cases e<;>first|rfl|cases h
theorem oE:∀{es:List Expr},(es.all λe=> !isStar e)=Z7->(kj pos (eo es env)).any (·.1)=Z6
 | [],_=>rfl
 |e::es,h=>by have a:=bj.mp (fg▸h);rw[jQ (by simpa using a.1)];show(Z6||(kj pos (eo es env)).any (·.1))=Z6;rw[oE a.2];rfl
section
variable {X:Cx}{x:Str}{p pos:Pos}{e:Expr}{es:List Expr}{t:TA}{id T:String}{r:List V->Hp->VK->Prop}
theorem jR (a:PE X e te)(hr:PA X es t)(hs:isStar e=false:=by rfl):PA X (e::es) (BQ te t):=za a hr (jQ hs)
theorem zh (hc:CallR X (.builtin id) r)(hm:X.mg x=Z8)(c:eh x=Z9 (.builtin id))(d:PA X (e::es) t)(a:((e::es).all λe=> !isStar e)=true:=by rfl)(f:Gl X x:=by rfl)(hn:x≠"__name__":=by decide)(b:VI x:=by decide):PE X (.Call (.Name x p) (e::es) [] pos) (wy r t):=by rw[fg,a6]at a;exact zfr hc f hm c d hn b (jQ (by simpa using a.1)) (oE a.2)
theorem NA (hc:CallR X (.type T) r)(hm:X.mg x=Z8)(c:eh x=Z9 (.type T))(d:PA X (e::es) t)(a:((e::es).all λe=> !isStar e)=true:=by rfl)(f:Gl X x:=by rfl)(hn:x≠"__name__":=by decide)(b:VI x:=by decide):PE X (.Call (.Name x p) (e::es) [] pos) (wy r t):=by rw[fg,a6]at a;exact ze9 hc f hm c d hn b (jQ (by simpa using a.1)) (oE a.2)
theorem zh2 (C:Cal X.prog X.w X.K X.mg X.base k x ps d)(hr:Room g X.A)(h:PA X (e::es) t)(a:((e::es).all fun e=> !isStar e)=true:=by rfl)(i:k<=g:=by decide)(j:Gl X x:=by rfl)
  (c:VI x:=by decide):PE X (.Call (.Name x p) (e::es) [] pos) (GJ d [] E0 t):=by
 obtain⟨f,fd,F,m,kp,b⟩:=C;rw[fg,a6]at a;exact zj5 F (hr.mono i) j m kp b .nil Nl h c (jQ (by simpa using a.1)) (oE a.2)
end
def z27:Expr->Bool
 |.ListComp ..=>Z7
 |.SetComp ..=>Z7
 |.DictComp ..=>Z7
 |_=>Z6
theorem uN (h:z27 e=Z6)(a:Option Expr)(n:Nat)(env:Env):l5 e a n env=pure false:=by cases e<;>first|rfl|cases h
theorem wJ (hN:X.N.Nodup)(a:X.N[i]?=Z9 x)(b:Loc X.env.scope x)(c:PE X e te)(hs:z27 e=false:=by rfl)(hf:X.fn x=Z7\/X.env.scope.names.lookup x=Z9 .local:=by first|exact .inl rfl|exact .inr rfl|assumption): PS X (.Assign [.Name x pos'] e pos) (rF te (BJ i)):=zil hN a b c (uN hs _ _ _) hf
theorem oF (a:PE X e te)(hs:z27 e=false:=by rfl):PS X (.Expr e pos) (Gz te):=L' a (uN hs _ _ _)
section
variable {X:Cx}
def Cd (K:Z5):R2:=λx y H Q=>kP (λi j=>.int (i+j)) x y H Q\/(∃i j,x=.str i/\y=.str j/\i.length+j.length<=bf/\Q (.str (i++j)) H)\/wF x y H Q\/GZ K x y H Q
def wK:R2:=λx y H Q=>kP (λi j=>.bl (decide (i<j))) x y H Q
def wL:R2:=λx y H Q=>kP (λi j=>.bl (decide (i<=j))) x y H Q
def wM:R2:=λx y H Q=>kP (λi j=>.bl (decide (j<i))) x y H Q
def Ce (K:Z5):V->Option Int->Option Int->Hp->VK->Prop:=λx lo hi H Q=>wD K x lo hi H Q\/wI x lo hi H Q
def NB (K:Z5):List V->Hp->VK->Prop:=λxs H Q=>(∃z,xs=[.str z]/\z.length<=bf/\Q (.int z.length) H)\/(∃p ys,xs=[.ref p]/\(SqL K H p ys\/cL K H p ys)/\Q (.int ys.length) H)
theorem ND:OpR X (iq .Add) (Cd X.K):=Mo.or (MA.or (Nh.or MW))
theorem Cf:OpR X (er .Lt) wK:=Mu
theorem Cg:OpR X (er .LtE) wL:=Mv
theorem Ci:OpR X (er .Gt) wM:=Mw
theorem NF:kQ X (G2 X.K):=M4
theorem NG:nG X (Ce X.K):=M8.or Hc
theorem NH:CallR X (.builtin "len") (NB X.K):=Na.or M9
theorem PI.or (h:PI X tg iter wi)(h':PI X tg iter NI):PI X tg iter (λσ H R=>wi σ H R\/NI σ H R):=by
 intro pins s σ H R I q;rcases q with q|q
 .exact h pins s σ H R I q
 .exact h' pins s σ H R I q
end
def nH (t T:String):Bool:=t==T||(t=="bool"&&T=="int")
def oG:List String:=["NoneType","bool","int","str","list","tuple","dict"]
def tysB:List String:=["str","int","bool","tuple","list"]
theorem NJ (K:Z5):∀t∈oG,∀T∈tysB,W.kitOne K (.type t) (.type T)=Z9 (nH t T):=by intro t a T b;simp only[oG,ay,iy,or_false]at a;simp only[tysB,ay,iy,or_false]at b;rcases a with rfl|rfl|rfl|rfl|rfl|rfl|rfl<;>rcases b with rfl|rfl|rfl|rfl|rfl<;>kernel_rfl
section
variable {D:Ends}{σ:St}{H:Hp}{Q:VK}{t u:TS}{te ta tb Vj:TE}{r r':R2}{K:Z5}
theorem NK (h:Q (.int (i+j)) H):Cd K (.int i) (.int j) H Q:=.inl ⟨i,j,rfl,rfl,h⟩
theorem NL (c:i.length+j.length<=bf)(h:Q (.str (i++j)) H):Cd K (.str i) (.str j) H Q:=.inr (.inl ⟨i,j,rfl,rfl,c,h⟩)
theorem NM (h:Q (.bl (decide (i<j))) H):wK (.int i) (.int j) H Q:=⟨i,j,rfl,rfl,h⟩
theorem NN (h:Q (.bl (decide (i<=j))) H):wL (.int i) (.int j) H Q:=⟨i,j,rfl,rfl,h⟩
theorem NO (h:Q (.bl (decide (j<i))) H):wM (.int i) (.int j) H Q:=⟨i,j,rfl,rfl,h⟩
theorem Cj (h:ta σ H λx H1=>tb σ H1 λy H2=>r x y H2 λz H3=>∃k,z=.bl k/\(if k=Z7 then tc σ H3 λw' H4=>r' y w' H4 Q else Q (.bl Z6) H3)):y9 r r' ta tb tc σ H Q:=h
end
section
variable {K:Z5}{H:Hp}{Q:VK}
end
section
variable {K:Z5}{H:Hp}{Q:VK}
theorem Same.upd (h:H p=Z8):Same H (L2.upd H p o):=λb u e=>by rw[aO (eC e h)];exact e
theorem Hd (h:n<=1000):n<=bf:=cc h (by rw[fj];decide)
end
theorem TyOf.same {K:Z5}(s:Same H H')(h:TyOf K H x t):TyOf K H' x t:=by
 cases h with
 |bU=>exact .bU
 |bl b=>exact .bl b
 |int i=>exact .int i
 |str z=>exact .str z
 |lst e=>exact .lst (s _ _ e)
 |eP e=>exact .eP (s _ _ e)
 |tup e=>exact .tup (s _ _ e)
 |dK e=>exact .dK (s _ _ e)
end L2
namespace Mi
open PySem
abbrev D:=ag
set_option genInjectivity true in
inductive Res (α:Type) where
 |ok (a:α)|exc (e:D)|no
namespace Res
def bind {α β:Type}(x:Res α)(f:α->Res β):Res β:=match x with
 |.ok a=>f a
 |.exc e=>.exc e
 |.no=>.no
instance:Monad Res where
 pure:=.ok
 bind:=Res.bind
theorem aB {b c:Type}(a:b)(f:b->Res c):(Res.ok a>>=f)=f a:=rfl
theorem lN {α β:Type}(e:D)(f:α->Res β):((Res.exc e:Res α)>>=f)=.exc e:=rfl
theorem oH {α β:Type}(f:α->Res β):((Res.no:Res α)>>=f)=.no:=rfl
def eK {α:Type}:Option α->Res α
 |some a=>.ok a
 |none=>.no
theorem aA {c d:Type}{x:Res c}{f:c->Res d}{b:d}(h:(x>>=f)=.ok b):∃a,x=.ok a/\f a=.ok b:=by
 cases x with
 |ok a=>exact⟨a,rfl,h⟩
 |exc e=>cases h
 |no=>cases h
end Res
mutual
def imm:ag->Bool
 |.tuple xs=>imms xs
 |.list _=>Z6
 |.dict _=>Z6
 |.none=>Z7
 |.bool _=>Z7
 |.int _=>Z7
 |.str _=>Z7
def imms:List ag->Bool
 | []=>Z7
 |x::xs=>imm x&&imms xs
end
theorem zi:∀{a:List D},imms a=Z7↔∀x∈a,imm x=Z7
 | []=>by simp[imms]
 |x::a=>by rw[imms,a6,zi];simp
abbrev bT:D->D->Bool:=PyData.eqv
mutual
def shal:Nat->ag->Bool
 |0,.tuple _=>Z6
 |0,.list _=>Z6
 |n+1,.tuple xs=>eE n xs
 |n+1,.list xs=>eE n xs
 |_,.dict _=>Z6
 |_,.none=>Z7
 |_,.bool _=>Z7
 |_,.int _=>Z7
 |_,.str _=>Z7
def eE:Nat->List ag->Bool
 |_,[]=>Z7
 |n,x::xs=>shal n x&&eE n xs
end
theorem uO:∀{a:List D},eE n a=Z7↔∀x∈a,shal n x=Z7
 | []=>by simp[eE]
 |x::a=>by rw[eE,a6,uO];simp
def truth:ag->Bool
 |.none=>Z6
 |.bool b=>b
 |.int i=>!decide (i=0)
 |.str x=>!decide (x.length=0)
 |.tuple xs=>!xs.isEmpty
 |.list xs=>!xs.isEmpty
 |.dict es=>!es.isEmpty
def iG (n:Nat)(i:Int):Option Nat:=if 0<=i then(if i<n then Z9 i.toNat else Z8)else if -(n:Int)<=i then Z9 (i+n).toNat else Z8
def cW {α:Type}(xs:List α)(i:Int):Option α:=(iG xs.length i).bind λj=>xs[j]?
def aT (n d:Nat):Option Int->Nat
 |none=>d
 |some v=>if v<0 then(v+(n:Int)).toNat else min v.toNat n
def cut {α:Type}(xs:List α)(lo hi:Option Int):List α:=(xs.drop (aT xs.length 0 lo)).take (aT xs.length xs.length hi-aT xs.length 0 lo)
def eqK:ag->ag->Bool
 |.int a,y=>match y with|.int b=>a==b|_=>Z6
 |.str a,y=>match y with|.str b=>decide (a=b)|_=>Z6
 |_,_=>Z6
def jS:ag->Bool
 |.int _=>Z7
 |.str _=>Z7
 |_=>Z6
abbrev cR:=List (D×D)
def gK (es:cR)(k:D):Option D:=(es.find? λe=>eqK e.1 k).map (·.2)
def dput (es:cR)(k v:D):cR:=if es.any (λe=>eqK e.1 k)then es.map (λe=>if eqK e.1 k then(e.1,v)else e)else es++[(k,v)]
def ent (e:D×D):D:=.tuple [e.1,e.2]
def jT:cR->List D->Option cR
 |es,[]=>Z9 es
 |es,p::ps=>match p with
  |.tuple [k,v]=>if jS k then jT (dput es k v) ps else Z8
  |_=>Z8
mutual
def bB:ag->ag->Bool
 |.int a,y=>match y with|.int b=>decide (a<b)|_=>Z6
 |.str a,y=>match y with|.str b=>decide (a.cps.toList<b.cps.toList)|_=>Z6
 |.tuple xs,y=>match y with|.tuple ys=>aD xs ys|_=>Z6
 |.none,_=>Z6
 |.bool _,_=>Z6
 |.list _,_=>Z6
 |.dict _,_=>Z6
def aD:List ag->List ag->Bool
 | [],ys=>!ys.isEmpty
 |x::xs,ys=>match ys with|y::ys=>if bT x y then aD xs ys else bB x y| []=>Z6
end
mutual
def cmpb:ag->ag->Bool
 |.int _,y=>match y with|.int _=>Z7|_=>Z6
 |.str _,y=>match y with|.str _=>Z7|_=>Z6
 |.tuple xs,y=>match y with|.tuple ys=>z39 xs ys|_=>Z6
 |.none,_=>Z6
 |.bool _,_=>Z6
 |.list _,_=>Z6
 |.dict _,_=>Z6
def z39:List ag->List ag->Bool
 | [],_=>Z7
 |x::xs,ys=>match ys with|y::ys=>cmpb x y&&z39 xs ys| []=>Z7
end
def dI (x:D):List D->List D
 | []=>[x]
 |y::ys=>if bB y x then y::dI x ys else x::y::ys
def z0r:List D->List D
 | []=>[]
 |x::xs=>dI x (z0r xs)
def uP:D->Bool
 |.int _=>Z7
 |_=>Z6
def uQ:D->Bool
 |.str _=>Z7
 |_=>Z6
def ofK (b:Bool)(x:D):Bool:=if b then uP x else uQ x
def cP:List Bool->List D->Bool
 | [],xs=>xs.isEmpty
 |b::bs,xs=>match xs with|x::xs=>ofK b x&&cP bs xs| []=>Z6
def z2l (bs:List Bool):D->Bool
 |.tuple xs=>cP bs xs
 |_=>Z6
def lO (xs:List D):Bool:=xs.all uP||xs.all uQ||(match xs with|.tuple ys::_=>!ys.isEmpty&&xs.all (z2l (ys.map uP))|_=>Z6)
def lP:D->Bool
 |.tuple xs=>xs.all (z2l [Z6,Z7])
 |_=>Z6
def uR:D->Bool
 |.tuple (x::xs)=>(x::xs).all (z2l [Z6,Z7])
 |_=>Z6
def oI:D->Bool
 |.tuple [.str _,a,b]=>lP a&&lP b
 |_=>Z6
def oJ (xs:List D):Bool:=lO xs||(decide (xs.length<2)||(xs.all uR||xs.all oI))
section
inductive G where
 |fr|od|al|nu
 deriving Inhabited,DecidableEq
abbrev Rho:=List (Option (G×D))
abbrev GD:=G×D
inductive Tg where
 |nm (i:Nat)|tp (is:List Nat)
 deriving Inhabited,DecidableEq
inductive C where
 |var (i:Nat)|bU|bl (b:Bool)|int (i:Int)|str (x:Str)|glob (k:Nat) (x:Str)|bin (op:uf) (a b:C)|cmp (op:CmpOp) (a b:C)|chain (op op':CmpOp) (a b c:C)|and (a b:C)|or (a b:C)|not (a:C)|rR (c a b:C)|tup (xs:C)|lst (xs:C)|iP|ix (a b:C)|sl (a lo hi:C)|call (k:Nat) (f:Str) (args:C)|bi (f:String) (args:C)|fB (f:String) (a:C)|nH (a:C) (ts:List String)|mt (m:String) (o args:C)|comp (nt:Nat) (js:List Nat) (N':List Str) (tg:Tg) (it cond elt:C)|sortI (i:Nat)|iH (args:C)|tv (a:C)|gW (b:Bool) (x:Str)|nil|cons (a r:C)
 deriving Inhabited
inductive S where
 |nil|seq (a b:S)|asg (t:Tg) (e:C)|cF (i:Nat) (k v:C)|mut (m:String) (i:Nat) (args:C)|drop (e:C)|ret (e:C)|dJ (c:C) (a b:S)|bN (t:Tg) (it:C) (b:S)|wh (n:Nat) (c:C) (b:S)|qD (c:Str)
 deriving Inhabited
inductive Out where
 |nx (ρ:Rho)|rt (g:G) (d:D)
abbrev Fn:=List D->Res GD
def bD:Nat:=1000000
def He:G->G
 |.fr=>.al
 |.od=>.od
 |.al=>.al
 |.nu=>.nu
def zj:Option (Option GD)->Res GD
 |some (Z9 (g,d))=>.ok (if imm d then .fr else He g,d)
 |_=>.no
def iQ:D->Res Bool
 |.str x=>if x.length<=bD then .ok (!decide (x.length=0))else .no
 |d=>.ok (truth d)
def jD:G->G
 |.fr=>.fr
 |.od=>.al
 |.al=>.al
 |.nu=>.fr
def agG:G->G
 |.fr=>.fr
 |.od=>.al
 |.al=>.al
 |.nu=>.nu
def gJ (d:D)(g:G):G:=if imm d then .fr else g
def gN (d:D)(g:G):G:=match d with
 |.list xs=>if imms xs then .fr else g
 |d=>gJ d g
def cQ (xs:List GD):G:=if xs.all (λx=>x.1==.fr)then .fr else if xs.all (λx=>x.1==.fr||x.1==.nu)then .nu else .al
def qE (xs:List GD):G:=if xs.all (λx=>x.1==.fr)then .fr else .al
def okIn (x:GD):Bool:=imm x.2||(x.1==.fr||x.1==.nu)
def cG (es:cR):Bool:=es.all λe=>imm e.2
def z1s:GD->GD
 |(g,d)=>if imm d then(.al,d)else match g,d with
  |.fr,.list xs=>(if imms xs then .fr else .nu,.list xs)
  |.fr,.dict es=>(if cG es then .fr else .nu,.dict es)
  |.fr,d=>(.nu,d)
  |.nu,d=>(.nu,d)
  |.od,d=>(.od,d)
  |.al,d=>(.al,d)
def uS:GD->GD
 |(g,d)=>match g with|.od=>(.od,d)|_=>(.al,d)
def iR:Option GD->Option GD
 |some (.fr,d)=>Z9 (.al,d)
 |some (.nu,d)=>Z9 (.al,d)
 |s=>s
def dV:Option GD->Option GD
 |some (.al,d)=>if imm d then Z9 (.al,d)else Z8
 |s=>s
def oK:Rho->List Nat->List D->G->Option Rho
 |ρ,[],[],_=>Z9 ρ
 |ρ,i::is,d::ds,g=>oK (ρ.set i (Z9 (uS (gJ d g,d)))) is ds g
 |_,_,_,_=>Z8
def cX:Tg->GD->Rho->Res Rho
 |.nm i,x,ρ=>.ok (ρ.set i (Z9 (uS x)))
 |.tp is,(g,.tuple ds),ρ=>Res.eK (oK ρ is ds g)
 |_,_,_=>.no
def Ck:D->Res D
 |.str x=>if x.length<=bD then .ok (.int x.length)else .no
 |.tuple xs=>.ok (.int xs.length)
 |.list xs=>.ok (.int xs.length)
 |.dict es=>.ok (.int es.length)
 |_=>.no
def nI {α:Type}(n:Nat)(xs:List α):List α:=(b8 n xs).flatten
def dM:uf->D->D->Res D
 |.Add,.int a,.int b=>.ok (.int (a+b))
 |.Add,.str a,.str b=>if a.length+b.length<=bD then .ok (.str (a++b))else .no
 |.Add,.list a,.list b=>if a.length+b.length<=bD then .ok (.list (a++b))else .no
 |.Add,.tuple a,.tuple b=>if a.length+b.length<=bD then .ok (.tuple (a++b))else .no
 |.Sub,.int a,.int b=>.ok (.int (a-b))
 |.Mult,.str a,.int n=>if 0<=n/\n<=bD/\a.length*n.toNat<=bD then .ok (.str ⟨(nI n.toNat a.cps.toList).toArray⟩)else .no
 |.Mult,.int a,.int b=>if(-(2 ^ 64)<a/\a<2 ^ 64)\/(-(2 ^ 64)<b/\b<2 ^ 64)then .ok (.int (a*b))else .no
 |.FloorDiv,.int a,.int b=>if 0<b/\b<2 ^ 200 then .ok (.int (a/b))else .no
 |.Mod,.int a,.int b=>if 0<b then .ok (.int (a%b))else .no
 |.Pow,.int a,.int b=>if 0<=b/\b<=1000/\a.natAbs<2 ^ 64 then .ok (.int (a ^ b.toNat))else .no
 |_,_,_=>.no
def inD (x:D):D->Res Bool
 |.list xs=>if shal 40 x&&eE 40 xs then .ok (xs.any λy=>bT y x)else .no
 |.tuple xs=>if shal 40 x&&eE 40 xs then .ok (xs.any λy=>bT y x)else .no
 |.dict es=>if jS x then .ok (gK es x).isSome else .no
 |_=>.no
def cmpD:CmpOp->D->D->Res Bool
 |.Eq,x,y=>if shal 40 x&&shal 40 y then .ok (bT x y)else .no
 |.NotEq,x,y=>if shal 40 x&&shal 40 y then .ok (!bT x y)else .no
 |.Lt,.int a,.int b=>.ok (decide (a<b))
 |.LtE,.int a,.int b=>.ok (decide (a<=b))
 |.Gt,.int a,.int b=>.ok (decide (b<a))
 |.In,x,y=>inD x y
 |.NotIn,x,y=>inD x y>>=λb=>.ok (!b)
 |_,_,_=>.no
def jU:D->D->Res D
 |.list xs,.int i=>Res.eK (cW xs i)
 |.tuple xs,.int i=>Res.eK (cW xs i)
 |.str z,.int i=>if z.length<=bD then Res.eK ((cW z.cps.toList i).map λc=>.str ⟨#[c]⟩)else .no
 |.dict es,k=>if jS k then Res.eK (gK es k)else .no
 |_,_=>.no
def qF (z:Str)(lo hi:Option Int):Str:=⟨(cut z.cps.toList lo hi).toArray⟩
def oM:D->Option Int->Option Int->Res D
 |.list xs,lo,hi=>.ok (.list (cut xs lo hi))
 |.tuple xs,lo,hi=>if aT xs.length 0 lo=0/\aT xs.length xs.length hi=xs.length then .no else .ok (.tuple (cut xs lo hi))
 |.str z,lo,hi=>if z.length<=bD then .ok (.str (qF z lo hi))else .no
 |_,_,_=>.no
def rS:D->Res (Option Int)
 |.int i=>.ok (Z9 i)
 |_=>.no
def z4z:D->Res (List D)
 |.list xs=>.ok xs
 |.tuple xs=>.ok xs
 |_=>.no
def dY:List D->Option Int
 | []=>Z9 0
 |.int i::r=>(dY r).map (i+ ·)
 |_=>Z8
def allB:List D->Option (List Bool)
 | []=>Z9 []
 |.bool b::r=>(allB r).map (b:: ·)
 |_=>Z8
def wN:List D->Option (List Str)
 | []=>Z9 []
 |.str b::r=>(wN r).map (b:: ·)
 |_=>Z8
def z4y:D->Res (Bool×List D)
 |.list xs=>.ok (Z7,xs)
 |.tuple xs=>.ok (Z6,xs)
 |_=>.no
def difB:List D->Bool
 | []=>Z7
 |x::xs=>(xs.all λy=>bB x y||bB y x)&&difB xs
def z7p (xs:List D):Bool:=(xs.all uR&&difB xs)&&(decide (64<=xs.length)&&decide (xs.length<=127))
def aggD (f:String)(l:Bool)(xs:List D):Res D:=
 if f="list"then .ok (.list xs)
 else if f="tuple"then .ok (.tuple xs)
 else if f="sorted"then(if(l||imms xs)&&oJ xs&&decide (xs.length<64)then .ok (.list (z0r xs))else if l&&z7p xs then .ok (.list (z0r xs))else .no)
 else if f="sum"then(if l then Res.eK ((dY xs).map .int)else .no)
 else if f="any"then(if l then Res.eK ((allB xs).map λbs=>.bool (bs.any id))else .no)
 else if f="dict"then Res.eK ((jT [] xs).map .dict)
 else .no
def Cm:D->Bool
 |.int _=>Z7
 |.str _=>Z7
 |_=>Z6
def kd:Nat->D->Bool
 |0,d=>Cm d
 |n+1,d=>match d with
  |.tuple xs=>xs.all (kd n)
  |d=>Cm d
def toS (l:List Nat):Str:=⟨l.toArray⟩
def kU (f:String)(xs:List D):Res D:=
 if f="len"then(match xs with| [x]=>Ck x|_=>.no)
 else if f="max"then(match xs with| [.int a,.int b]=>.ok (.int (max a b))|_=>.no)
 else .no
def gZ:D->String
 |.none=>"NoneType"|.bool _=>"bool"|.int _=>"int"|.str _=>"str"|.tuple _=>"tuple"|.list _=>"list"|.dict _=>"dict"
def jV (t T:String):Bool:=t==T||(t=="bool"&&T=="int")
def NP (sep:List Nat):List Str->List Nat
 | []=>[]
 |x::r=>x.cps.toList++(r.map λp=>sep++p.cps.toList).flatten
def NQ (sep:Str)(xs:List Str):Str:=⟨(NP sep.cps.toList xs).toArray⟩
def NR (sep:Str)(xs:List Str):Nat:=(xs.map (·.length)).sum+xs.length*sep.length
def mtD (m:String)(o:D)(xs:List D):Res D:=
 if m="get"then(match o,xs with|.dict es,[k,d]=>if jS k then .ok ((gK es k).getD d)else .no|_,_=>.no)
 else if m="join"then(match o,xs with|.str z,[.list ys]=>(match wN ys with|some ss=>if NR z ss<=bD then .ok (.str (NQ z ss))else .no|none=>.no)|_,_=>.no)
 else .no
def jW:List D->Res (List D)
 | [.int n]=>if n<=bD/\-bD<=n then .ok ((b9 n.toNat).map λ(i:Nat)=>.int i)else .no
 |_=>.no
def Cn:D->Res (List D)
 |.list xs=>if decide (xs.length<=bD)then .ok xs else .no
 |.tuple xs=>if decide (xs.length<=bD)then .ok xs else .no
 |_=>.no
def oc:Option GD->List GD->List GD
 |some y,r=>y::r
 |none,r=>r
def jX (f:D->Res (Option GD)):List D->Res (List GD)
 | []=>.ok []
 |x::xs=>f x>>=λo=>jX f xs>>=λr=>.ok (oc o r)
variable (Κ:List D)(Φ:List Fn)
mutual
def aG:C->Rho->Res GD
 |.var i,ρ=>zj ρ[i]?
 |.bU,_=>.ok (.fr,.none)
 |.bl b,_=>.ok (.fr,.bool b)
 |.int i,_=>.ok (.fr,.int i)
 |.str x,_=>.ok (.fr,.str x)
 |.gW b _,_=>.ok (.fr,.bool b)
 |.glob k _,_=>match Κ[k]? with|some d=>if imm d then .ok (.fr,d)else .no|none=>.no
 |.bin op a b,ρ=>aG a ρ>>=λx=>aG b ρ>>=λy=>dM op x.2 y.2>>=λd=>.ok (gN d (cQ [x,y]),d)
 |.cmp op a b,ρ=>aG a ρ>>=λx=>aG b ρ>>=λy=>cmpD op x.2 y.2>>=λb=>.ok (.fr,.bool b)
 |.chain op op' a b c,ρ=>aG a ρ>>=λx=>aG b ρ>>=λy=>cmpD op x.2 y.2>>=λk=>if k then aG c ρ>>=λz=>cmpD op' y.2 z.2>>=λk'=>.ok (.fr,.bool k')else .ok (.fr,.bool Z6)
 |.and a b,ρ=>aG a ρ>>=λx=>match x.2 with|.bool c=>if c then aG b ρ else .ok (.fr,.bool Z6)|_=>.no
 |.or a b,ρ=>aG a ρ>>=λx=>match x.2 with|.bool c=>if c then .ok (.fr,.bool Z7)else aG b ρ|_=>.no
 |.not a,ρ=>aG a ρ>>=λx=>iQ x.2>>=λc=>.ok (.fr,.bool (!c))
 |.rR c a b,ρ=>dN c ρ>>=λk=>if k then aG a ρ else aG b ρ
 |.tup xs,ρ=>dC xs ρ>>=λys=>.ok (gJ (.tuple (ys.map (·.2))) (cQ ys),.tuple (ys.map (·.2)))
 |.lst xs,ρ=>dC xs ρ>>=λys=>.ok (cQ ys,.list (ys.map (·.2)))
 |.iP,_=>.ok (.fr,.dict [])
 |.ix a b,ρ=>aG a ρ>>=λx=>aG b ρ>>=λy=>jU x.2 y.2>>=λd=>.ok (gJ d x.1,d)
 |.sl a lo hi,ρ=>aG a ρ>>=λx=>rT lo ρ>>=λl=>rT hi ρ>>=λh=>oM x.2 l h>>=λd=>.ok (gN d (cQ [x]),d)
 |.call k _ args,ρ=>dC args ρ>>=λys=>match Φ[k]? with|some m=>m (ys.map (·.2))>>=λr=>.ok (gJ r.2 (jD r.1),r.2)|none=>.no
 |.bi f args,ρ=>dC args ρ>>=λys=>kU f (ys.map (·.2))>>=λd=>.ok (gJ d .al,d)
 |.fB f a,ρ=>Co a ρ>>=λw=>aggD f w.2.1 w.2.2>>=λd=>.ok (gJ d (if imms w.2.2 then .fr else agG w.1),d)
 |.nH a ts,ρ=>aG a ρ>>=λx=>.ok (.fr,.bool (ts.any λT=>jV (gZ x.2) T))
 |.mt m o args,ρ=>aG o ρ>>=λx=>dC args ρ>>=λys=>mtD m x.2 (ys.map (·.2))>>=λd=>.ok (gJ d .al,d)
 |.sortI i,ρ=>match ρ[i]? with
  |some (Z9 (_,.dict es))=>if cG es&&lO (es.map ent)&&decide (es.length<64)then .ok (.fr,.list (z0r (es.map ent)))else .no
  |_=>.no
 |.comp nt js _ tg it cond elt,ρ=>evW it ρ>>=λw=>jX (λx=>cX tg (gJ x w.1,x) (b8 nt Z8++js.map λj=>iR (ρ.getD j Z8))>>=λρ1=>dN cond ρ1>>=λk=>if k then aG elt ρ1>>=λy=>.ok (Z9 y)else .ok Z8) w.2>>=λys=>.ok (qE ys,.list (ys.map (·.2)))
 |_,_=>.no
def dN:C->Rho->Res Bool
 |.and a b,ρ=>dN a ρ>>=λc=>if c then dN b ρ else .ok Z6
 |.or a b,ρ=>dN a ρ>>=λc=>if c then .ok Z7 else dN b ρ
 |.not a,ρ=>dN a ρ>>=λc=>.ok (!c)
 |.nil,_=>.ok Z7
 |.tv a,ρ=>aG a ρ>>=λx=>iQ x.2
 |_,_=>.no
def dC:C->Rho->Res (List GD)
 |.nil,_=>.ok []
 |.cons a r,ρ=>aG a ρ>>=λx=>dC r ρ>>=λxs=>.ok (x::xs)
 |_,_=>.no
def rT:C->Rho->Res (Option Int)
 |.nil,_=>.ok Z8
 |.tv a,ρ=>aG a ρ>>=λx=>rS x.2
 |_,_=>.no
def Co:C->Rho->Res (G×Bool×List D)
 |.tv a,ρ=>aG a ρ>>=λx=>z4y x.2>>=λp=>.ok (x.1,p)
 |_,_=>.no
def evW:C->Rho->Res (G×List D)
 |.iH args,ρ=>dC args ρ>>=λys=>jW (ys.map (·.2))>>=λxs=>.ok (.fr,xs)
 |.tv a,ρ=>aG a ρ>>=λx=>z4z x.2>>=λxs=>.ok (x.1,xs)
 |_,_=>.no
end
def lQ:Res Out->(Rho->Res Out)->Res Out
 |.ok (.nx ρ),k=>k ρ
 |r,_=>r
def cY (f:D->Rho->Res Out):List D->Rho->Res Out
 | [],ρ=>.ok (.nx ρ)
 |x::xs,ρ=>match f x ρ with
  |.ok (.nx aL)=>cY f xs aL
  |.ok (.rt g d)=>.ok (.rt g d)
  |.exc e=>.exc e
  |.no=>.no
def wO (c:Rho->Res Bool)(f:Rho->Res Out):Nat->Rho->Res Out
 |0,_=>.no
 |n+1,ρ=>c ρ>>=λk=>if k then(match f ρ with
  |.ok (.nx aL)=>wO c f n aL
  |.ok (.rt g d)=>.ok (.rt g d)
  |.exc e=>.exc e
  |.no=>.no)else .ok (.nx ρ)
def putAt (xs:List D)(ys:List GD):Res (List D):=match ys with
 | [x,y]=>(match x.2 with
  |.int i=>if okIn y&&decide (xs.length<bD)&&decide (0<=i)&&decide (i<=xs.length)then .ok (xs.take i.toNat++y.2::xs.drop i.toNat)else .no
  |_=>.no)
 |_=>.no
def rU (xs:List D)(ys:List GD):Res (List D):=match ys with
 | [y]=>(match y.2 with
  |.list zs=>if okIn y&&decide (xs.length+zs.length<=bD)then .ok (xs++zs)else .no
  |_=>.no)
 |_=>.no
def jY (m:String)(xs:List D)(ys:List GD):Res (List D):=
 if m="append"then(match ys with| [y]=>if okIn y&&decide (xs.length<bD)then .ok (xs++[y.2])else .no|_=>.no)
 else if m="extend"then rU xs ys
 else .no
def iS (ρ:Rho)(i:Nat):Bool:=match ρ[i]? with
 |some (Z9 (.fr,_))=>Z7
 |_=>Z6
def zk (i:Nat)(ρ:Rho):Res (G×List D×Rho):=match ρ[i]? with
 |some (Z9 (.fr,d))=>z4z d>>=λxs=>.ok (.al,xs,ρ.set i (Z9 (.al,d)))
 |_=>.no
def Cp:Option GD->Option GD
 |some (.fr,.list xs)=>Z9 (.al,.list xs)
 |s=>s
def jZ (x:GD)(ρ:Rho):Res (G×List D×Rho):=match x.2 with
 |.list xs=>if imms xs then .ok (.al,xs,ρ.map Cp)else .no
 |_=>.no
def fS (it:C)(ρ:Rho):Bool:=match evW Κ Φ it ρ with
 |.ok w=>w.1==.al
 |_=>Z6
def nJ (it:C)(ρ:Rho):Res (G×List D×Rho):=evW Κ Φ it ρ>>=λw=>if w.1==.al then .no else .ok (w.1,w.2,ρ)
def evF (it:C)(ρ:Rho):Res (G×List D×Rho):=match it with
 |.tv (.var i)=>if iS ρ i then zk i ρ else if fS Κ Φ it ρ then aG Κ Φ (.var i) ρ>>=λx=>jZ x ρ else nJ Κ Φ it ρ
 |.tv a=>if fS Κ Φ it ρ then aG Κ Φ a ρ>>=λx=>jZ x ρ else nJ Κ Φ it ρ
 |it=>nJ Κ Φ it ρ
def excOf:Res GD->Option Str
 |.exc (.str c)=>Z9 c
 |_=>Z8
def wQ:Option GD->Option GD
 |some (.fr,d)=>Z9 (.nu,d)
 |s=>s
mutual
def j':ag->ag->Bool
 |.list xs,y=>match y with|.list ys=>wR xs ys|_=>Z6
 |.tuple _,y=>match y with|.list _=>Z6|_=>Z7
 |.dict _,y=>match y with|.list _=>Z6|_=>Z7
 |.none,y=>match y with|.list _=>Z6|_=>Z7
 |.bool _,y=>match y with|.list _=>Z6|_=>Z7
 |.int _,y=>match y with|.list _=>Z6|_=>Z7
 |.str _,y=>match y with|.list _=>Z6|_=>Z7
def wR:List ag->List ag->Bool
 | [],ys=>ys.isEmpty
 |x::xs,ys=>match ys with|y::ys=>j' x y&&wR xs ys| []=>Z6
end
mutual
def apart (z:D):ag->Bool
 |.tuple xs=>z4g z xs
 |.list xs=>!(j' (.list xs) z)&&z4g z xs
 |.dict _=>Z6
 |.none=>Z7
 |.bool _=>Z7
 |.int _=>Z7
 |.str _=>Z7
def z4g (z:D):List ag->Bool
 | []=>Z7
 |x::xs=>apart z x&&z4g z xs
end
def zl (z:D):Option GD->Option GD
 |some (g,d)=>if imm d then Z9 (.al,d)else match g with
  |.od=>Z9 (.od,d)
  |.nu=>if apart z d then Z9 (.nu,d)else Z8
  |_=>Z8
 |none=>Z8
def aH:S->Rho->Res Out
 |.nil,ρ=>.ok (.nx ρ)
 |.seq a b,ρ=>lQ (aH a ρ) (aH b)
 |.asg (.nm i) e,ρ=>aG Κ Φ e ρ>>=λx=>.ok (.nx (ρ.set i (Z9 (z1s x))))
 |.asg t e,ρ=>aG Κ Φ e ρ>>=λx=>cX t x ρ>>=λaL=>.ok (.nx aL)
 |.cF i k v,ρ=>aG Κ Φ v ρ>>=λy=>aG Κ Φ k ρ>>=λx=>match ρ[i]? with
  |some (Z9 (.fr,.dict es))=>if jS x.2&&okIn y&&decide (es.length<bD)then .ok (.nx ((ρ.set i (Z9 (.fr,.dict (dput es x.2 y.2)))).map dV))else .no
  |some (Z9 (.fr,.list xs))=>(match x.2 with
   |.int j=>if okIn y then(match iG xs.length j with|some n=>.ok (.nx ((ρ.set i (Z9 (.fr,.list (xs.set n y.2)))).map dV))|none=>.no)else .no
   |_=>.no)
  |_=>.no
 |.mut m i args,ρ=>dC Κ Φ args ρ>>=λys=>match ρ[i]? with
  |some (Z9 (.fr,.list xs))=>jY m xs ys>>=λuT=>.ok (.nx ((ρ.set i (Z9 (.fr,.list uT))).map dV))
  |_=>.no
 |.drop e,ρ=>aG Κ Φ e ρ>>=λ_=>.ok (.nx ρ)
 |.ret e,ρ=>match e with
  |.var i=>match ρ[i]? with
   |some (Z9 (g,d))=>.ok (.rt (if imm d then .fr else jD g) d)
   |_=>.no
  |e=>aG Κ Φ e ρ>>=λx=>.ok (.rt (jD x.1) x.2)
 |.dJ c a b,ρ=>dN Κ Φ c ρ>>=λk=>if k then aH a ρ else aH b ρ
 |.bN t it b,ρ=>evF Κ Φ it ρ>>=λw=>cY (λx ρ1=>cX t (gJ x w.1,x) ρ1>>=λbL=>aH b bL) w.2.1 w.2.2
 |.wh n c b,ρ=>wO (dN Κ Φ c) (aH b) n ρ
 |.qD _,_=>.no
mutual
def nK:C->Rho->Option Str
 |.call k _ args,ρ=>match dC Κ Φ args ρ with
  |.ok ys=>(match Φ[k]? with|some m=>excOf (m (ys.map (·.2)))|none=>Z8)
  |_=>qG args ρ
 |_,_=>Z8
def qG:C->Rho->Option Str
 |.cons a r,ρ=>match aG Κ Φ a ρ with
  |.ok _=>qG r ρ
  |_=>nK a ρ
 |_,_=>Z8
end
def rV:C->Rho->Option Str
 |.not a,ρ=>rV a ρ
 |.tv a,ρ=>nK Κ Φ a ρ
 |_,_=>Z8
def eS (f:D->Rho->Res Out)(g:D->Rho->Option Str):List D->Rho->Option Str
 | [],_=>Z8
 |x::xs,ρ=>match f x ρ with
  |.ok (.nx aL)=>eS f g xs aL
  |.ok _=>Z8
  |_=>g x ρ
def fC:S->Rho->Option Str
 |.qD c,_=>Z9 c
 |.seq a b,ρ=>match aH Κ Φ a ρ with
  |.ok (.nx aL)=>fC b aL
  |.ok _=>Z8
  |_=>fC a ρ
 |.dJ c a b,ρ=>match dN Κ Φ c ρ with
  |.ok k=>if k then fC a ρ else fC b ρ
  |_=>rV Κ Φ c ρ
 |.drop e,ρ=>nK Κ Φ e ρ
 |.ret e,ρ=>nK Κ Φ e ρ
 |.asg (.nm _) e,ρ=>nK Κ Φ e ρ
 |.bN t it b,ρ=>match evF Κ Φ it ρ with
  |.ok w=>eS (λx ρ1=>cX t (gJ x w.1,x) ρ1>>=λbL=>aH Κ Φ b bL) (λx ρ1=>match cX t (gJ x w.1,x) ρ1 with|.ok bL=>fC b bL|_=>Z8) w.2.1 w.2.2
  |_=>Z8
 |_,_=>Z8
def aV (n:Nat)(s:S)(ds:List D):Res GD:=match aH Κ Φ s (ds.map (λd=>Z9 (.od,d))++b8 (n-ds.length) Z8)with
 |.ok (.nx _)=>.ok (.fr,.none)
 |.ok (.rt g d)=>.ok (g,d)
 |_=>match fC Κ Φ s (ds.map (λd=>Z9 (.od,d))++b8 (n-ds.length) Z8)with
  |some c=>.exc (.str c)
  |none=>.no
end
open PySem.Spec PyProof.Rows L2
def kD:Key->D
 |.inl i=>.int i
 |.inr x=>.str x
def keyOk:Key->Prop
 |.inl _=>True
 |.inr x=>Z3 x=Z7
def KL (K:Z5)(a:Addr)(xs:List V):Prop:=∃(o:Obj) (its:Array Value) (n:Nat),K.lookup a=Z9 o/\o.cls=.type "list"/\o.dict=Z8/\o.data=.seq its n/\its.size<=bf/\Vals xs its.toList
abbrev Ad:=Option Addr
def FL (K:Z5)(H:Hp)(a:Addr)(xs:List V):Prop:=(∃o,H a=Z9 (.eP o (.lst xs)))\/KL K a xs
def nw (H:Hp):Ad->Prop
 |some a=>H a=Z8
 |none=>False
section
variable (K:Z5)(H:Hp)(B:Ad->Prop)
mutual
def Rep:V->ag->Prop
 |v,.none=>v=.bU
 |v,.bool b=>v=.bl b
 |v,.int i=>v=.int i
 |v,.str x=>v=.str x/\Z3 x=Z7
 |v,.tuple ds=>∃a vs,v=.ref a/\cL K H a vs/\Reps vs ds
 |v,.list ds=>∃a vs,v=.ref a/\((H a=Z9 (.lst vs)/\B (Z9 a))\/(FL K H a vs/\B Z8))/\Reps vs ds
 |v,.dict es=>∃a kvs,v=.ref a/\H a=Z9 (.dK kvs)/\B (Z9 a)/\bC kvs es
def Reps:List V->List ag->Prop
 |vs,[]=>vs=[]
 |vs,d::ds=>∃v r,vs=v::r/\Rep v d/\Reps r ds
def bC:List (Key×V)->List (ag×ag)->Prop
 |kvs,[]=>kvs=[]
 |kvs,(kd,d)::es=>∃k v r,kvs=(k,v)::r/\kd=kD k/\keyOk k/\Rep v d/\bC r es
end
end
def Fix:HO->Prop
 |.tup _=>True
 |.eP _ (.lst _)=>True
 |.eP _ (.tup _)=>True
 |_=>False
section
variable {K:Z5}{H H':Hp}{B B':Ad->Prop}
theorem FL.keep (b:∀a o,H a=Z9 o->(B (Z9 a)\/Fix o)->H' a=Z9 o)(r:FL K H a c):FL K H' a c:=by
 rcases r with⟨o,r⟩|r
 .exact .inl ⟨o,b a _ r (.inr True.intro)⟩
 .exact .inr r
theorem _root_.L2.cL.keep (b:∀a o,H a=Z9 o->(B (Z9 a)\/Fix o)->H' a=Z9 o)(r:cL K H a c):cL K H' a c:=by
 rcases r with(r|⟨o,r⟩)|r
 .exact .inl (.inl (b a _ r (.inr True.intro)))
 .exact .inl (.inr ⟨o,b a _ r (.inr True.intro)⟩)
 .exact .inr r
mutual
theorem Rep.keep (hH:∀a o,H a=Z9 o->(B (Z9 a)\/Fix o)->H' a=Z9 o)(hB:∀a,B a->B' a):∀{v:V} (d:ag),Rep K H B v d->Rep K H' B' v d
 |v,.none,r=>r
 |v,.bool b,r=>r
 |v,.int i,r=>r
 |v,.str x,r=>r
 |v,.tuple ds,r=>by obtain⟨a,vs,e,h,q⟩:=r;exact⟨a,vs,e,h.keep hH,Reps.keep hH hB ds q⟩
 |v,.list ds,r=>by
  obtain⟨a,vs,e,h,q⟩:=r;refine⟨a,vs,e,?_,Reps.keep hH hB ds q⟩;rcases h with⟨h,b⟩|h
  .exact .inl ⟨hH a _ h (.inl b),hB _ b⟩
  .exact .inr ⟨FL.keep hH h.1,hB _ h.2⟩
 |v,.dict es,r=>by obtain⟨a,kvs,e,h,b,q⟩:=r;exact⟨a,kvs,e,hH a _ h (.inl b),hB _ b,bC.keep hH hB es q⟩
theorem Reps.keep (hH:∀a o,H a=Z9 o->(B (Z9 a)\/Fix o)->H' a=Z9 o)(hB:∀a,B a->B' a):∀{vs:List V} (ds:List ag),Reps K H B vs ds->Reps K H' B' vs ds
 |vs,[],r=>r
 |vs,d::ds,r=>by obtain⟨v,t,e,h,q⟩:=r;exact⟨v,t,e,Rep.keep hH hB d h,Reps.keep hH hB ds q⟩
theorem bC.keep (hH:∀a o,H a=Z9 o->(B (Z9 a)\/Fix o)->H' a=Z9 o)(hB:∀a,B a->B' a):∀{kvs:List (Key×V)} (es:List (ag×ag)),bC K H B kvs es->bC K H' B' kvs es
 |kvs,[],r=>r
 |kvs,(kd,d)::es,r=>by obtain⟨k,v,t,e,e2,ok,h,q⟩:=r;exact⟨k,v,t,e,e2,ok,Rep.keep hH hB d h,bC.keep hH hB es q⟩
end
theorem Rep.same (s:Same H H')(b:∀a,B a->B' a)(r:Rep K H B v d):Rep K H' B' v d:=Rep.keep (λa o e _=>s a o e) b d r
theorem Reps.same (s:Same H H')(b:∀a,B a->B' a)(r:Reps K H B c ds):Reps K H' B' c ds:=Reps.keep (λa o e _=>s a o e) b ds r
theorem bC.same (s:Same H H')(b:∀a,B a->B' a)(r:bC K H B c ds):bC K H' B' c ds:=bC.keep (λa o e _=>s a o e) b ds r
theorem Rep.weak (b:∀a,B a->B' a)(r:Rep K H B v d):Rep K H B' v d:=r.same (λ_ _ e=>e) b
theorem Reps.weak (b:∀a,B a->B' a)(r:Reps K H B v d):Reps K H B' v d:=r.same (λ_ _ e=>e) b
mutual
theorem Rep.immB:∀{v:V} (d:ag),imm d=Z7->Rep K H B v d->Rep K H B' v d
 |v,.none,_,r=>r
 |v,.bool b,_,r=>r
 |v,.int i,_,r=>r
 |v,.str x,_,r=>r
 |v,.tuple ds,i,r=>by obtain⟨a,vs,e,h,q⟩:=r;exact⟨a,vs,e,h,Reps.immB ds (i) q⟩
 |v,.list ds,i,r=>by cases(show Z6=Z7 from i)
 |v,.dict es,i,r=>by cases(show Z6=Z7 from i)
theorem Reps.immB:∀{vs:List V} (ds:List ag),imms ds=Z7->Reps K H B vs ds->Reps K H B' vs ds
 |vs,[],_,r=>r
 |vs,d::ds,i,r=>by have i:=bj.mp (show(imm d&&imms ds)=Z7 from i);obtain⟨v,t,e,h,q⟩:=r;exact⟨v,t,e,Rep.immB d i.1 h,Reps.immB ds i.2 q⟩
end
mutual
theorem Rep.iT (hH:∀a o,H a=Z9 o->Fix o->H' a=Z9 o):∀{v:V} (d:ag),imm d=Z7->Rep K H B v d->Rep K H' B' v d
 |v,.none,_,r=>r
 |v,.bool b,_,r=>r
 |v,.int i,_,r=>r
 |v,.str x,_,r=>r
 |v,.tuple ds,i,r=>by obtain⟨a,vs,e,h,q⟩:=r;exact⟨a,vs,e,h.keep (B:=λ_=>False) (λa o e f=>hH a o e (f.resolve_left id)),Reps.iT hH ds (i) q⟩
 |v,.list ds,i,r=>by cases(show Z6=Z7 from i)
 |v,.dict es,i,r=>by cases(show Z6=Z7 from i)
theorem Reps.iT (hH:∀a o,H a=Z9 o->Fix o->H' a=Z9 o):∀{vs:List V} (ds:List ag),imms ds=Z7->Reps K H B vs ds->Reps K H' B' vs ds
 |vs,[],_,r=>r
 |vs,d::ds,i,r=>by have i:=bj.mp (show(imm d&&imms ds)=Z7 from i);obtain⟨v,t,e,h,q⟩:=r;exact⟨v,t,e,Rep.iT hH d i.1 h,Reps.iT hH ds i.2 q⟩
end
theorem Reps.length:∀{vs:List V} {ds:List D},Reps K H B vs ds->vs.length=ds.length
 |vs,[],r=>by have e:vs=[]:=r;subst e;rfl
 |vs,d::ds,r=>by obtain⟨v,t,rfl,h,q⟩:=r;rw[bo,bo,q.length]
theorem Reps.get:∀{vs:List V} {ds:List D} {i:Nat} {d:D},Reps K H B vs ds->ds[i]?=Z9 d->∃v,vs[i]?=Z9 v/\Rep K H B v d
 |vs,[],i,d,r,e=>by simp at e
 |vs,d0::ds,0,d,r,e=>by
  obtain⟨v,t,rfl,h,q⟩:=r;have:d0=d:=by simpa using e
  subst this;exact⟨v,rfl,h⟩
 |vs,d0::ds,i+1,d,r,e=>by obtain⟨v,t,rfl,h,q⟩:=r;obtain⟨u,h1,h2⟩:=q.get (by simpa using e);exact⟨u,by simpa using h1,h2⟩
theorem Reps.rW:∀{a:List V} {b:List D} {i:Nat} {v:V},Reps K H B a b->a[i]?=Z9 v->∃d,b[i]?=Z9 d/\Rep K H B v d
 |a,[],i,v,r,e=>by have c:a=[]:=r;subst c;simp at e
 |a,d0::b,0,v,r,e=>by
  obtain⟨u,t,rfl,h,q⟩:=r;have:u=v:=by simpa using e
  subst this;exact⟨d0,rfl,h⟩
 |a,d0::b,i+1,v,r,e=>by obtain⟨u,t,rfl,h,q⟩:=r;obtain⟨d,f,g⟩:=q.rW (by simpa using e);exact⟨d,by simpa using f,g⟩
theorem Reps.cons {v:V}{d:D}{a:List V}{ds:List D}(h:Rep K H B v d)(r:Reps K H B a ds):Reps K H B (v::a) (d::ds):=⟨v,a,rfl,h,r⟩
theorem Reps.append:∀{vs ws:List V} {ds es:List D},Reps K H B vs ds->Reps K H B ws es->Reps K H B (vs++ws) (ds++es)
 |vs,ws,[],es,r,q=>by have e:vs=[]:=r;subst e;exact q
 |vs,ws,d::ds,es,r,q=>by obtain⟨v,t,rfl,h,p⟩:=r;exact⟨v,t++ws,rfl,h,p.append q⟩
theorem Reps.take:∀{vs:List V} {ds:List D} n,Reps K H B vs ds->Reps K H B (vs.take n) (ds.take n)
 |vs,ds,0,r=>by rw[List.take_zero];exact rfl
 |vs,[],n+1,r=>by have e:vs=[]:=r;subst e;exact rfl
 |vs,d::ds,n+1,r=>by obtain⟨v,t,rfl,h,p⟩:=r;exact⟨v,t.take n,rfl,h,p.take n⟩
theorem Reps.drop:∀{a:List V} {b:List D} n,Reps K H B a b->Reps K H B (a.drop n) (b.drop n)
 |a,b,0,r=>r
 |a,[],n+1,r=>by have e:a=[]:=r;subst e;exact rfl
 |a,d::b,n+1,r=>by obtain⟨v,t,rfl,h,p⟩:=r;exact p.drop n
theorem Reps.set (h:Rep K H B v d):∀{vs:List V} {ds:List D} n,Reps K H B vs ds->Reps K H B (vs.set n v) (ds.set n d)
 |vs,[],n,r=>by have e:vs=[]:=r;subst e;exact rfl
 |vs,d::ds,0,r=>by obtain⟨u,t,rfl,_,p⟩:=r;exact⟨_,_,rfl,h,p⟩
 |vs,d::ds,n+1,r=>by obtain⟨u,t,rfl,h0,p⟩:=r;exact⟨_,_,rfl,h0,p.set h n⟩
mutual
theorem Rep.there:∀{v:V} (d:ag),Rep K H B v d->Rep K H (λa=>B a/\¬nw H a) v d
 |v,.none,r=>r
 |v,.bool b,r=>r
 |v,.int i,r=>r
 |v,.str x,r=>r
 |v,.tuple ds,r=>by obtain⟨a,vs,e,h,q⟩:=r;exact⟨a,vs,e,h,Reps.there ds q⟩
 |v,.list ds,r=>by
  obtain⟨a,vs,e,h,q⟩:=r;refine⟨a,vs,e,?_,Reps.there ds q⟩;rcases h with⟨h,b⟩|h
  .refine .inl ⟨h,b,λz=>?_⟩;have z':H a=none:=z;rw[h]at z';cases z'
  .exact .inr ⟨h.1,h.2,λz=>z⟩
 |v,.dict es,r=>by obtain⟨a,kvs,e,h,b,q⟩:=r;exact⟨a,kvs,e,h,⟨b,λz=>by have z':H a=none:=z;rw[h]at z';cases z'⟩,bC.there es q⟩
theorem Reps.there:∀{vs:List V} (ds:List ag),Reps K H B vs ds->Reps K H (λa=>B a/\¬nw H a) vs ds
 |vs,[],r=>r
 |vs,d::ds,r=>by obtain⟨v,t,e,h,q⟩:=r;exact⟨v,t,e,Rep.there d h,Reps.there ds q⟩
theorem bC.there:∀{kvs:List (Key×V)} (es:List (ag×ag)),bC K H B kvs es->bC K H (λa=>B a/\¬nw H a) kvs es
 |kvs,[],r=>r
 |kvs,(kd,d)::es,r=>by obtain⟨k,v,t,e,e2,ok,h,q⟩:=r;exact⟨k,v,t,e,e2,ok,Rep.there d h,bC.there es q⟩
end
end
structure Fm where
 H0:Hp
 V:Addr->Prop
 O:Addr->Option Nat
 z:Prop
def Bin (F:Fm):Ad->Prop
 |some a=>F.O a=Z8/\F.H0 a=Z8/\F.V a
 |none=>False
def bZ (F:Fm):Ad->Prop
 |some a=>F.V a
 |none=>F.z
def fT (F:Fm):Ad->Prop
 |some a=>F.H0 a≠Z8/\F.V a
 |none=>F.z
def Slot (K:Z5)(F:Fm)(H:Hp)(i:Nat):G->V->D->Prop
 |.fr,v,d=>∃p,v=.ref p/\F.O p=Z9 i/\((∃vs ds,d=.list ds/\H p=Z9 (.lst vs)/\Reps K H (Bin F) vs ds)\/(∃kvs es,d=.dict es/\H p=Z9 (.dK kvs)/\bC K H (Bin F) kvs es))
 |.od,v,d=>Rep K H (fT F) v d
 |.al,v,d=>Rep K H (bZ F) v d
 |.nu,v,d=>Rep K H (Bin F) v d
structure StOk (K:Z5)(F:Fm)(H:Hp)(σ:L2.St)(ρ:Rho):Prop where
 ext:Same F.H0 H
 aK:∀a,H a=Z8->F.V a
 own:∀a i,F.O a=Z9 i->F.H0 a=Z8/\F.V a/\((∃xs,H a=Z9 (.lst xs))\/∃kvs,H a=Z9 (.dK kvs))
 len:σ.length=ρ.length
 sl:∀i g d,ρ[i]?=Z9 (Z9 (g,d))->∃v,σ[i]?=Z9 (Z9 v)/\Slot K F H i g v d
def BG (F:Fm)(H:Hp):G->Ad->Prop
 |.fr=>nw H
 |.od=>fT F
 |.al=>bZ F
 |.nu=>λa=>nw H a\/Bin F a
section
variable {K:Z5}{F:Fm}{H H':Hp}{σ:L2.St}{ρ:Rho}
theorem Slot.same (s:Same H H')(h:Slot K F H i g v d):Slot K F H' i g v d:=by
 cases g with
 |fr=>
  obtain⟨p,e,o,h⟩:=h;refine⟨p,e,o,?_⟩;rcases h with⟨a,c,f,j,r⟩|⟨a,c,f,j,r⟩
  .exact .inl ⟨a,c,f,s _ _ j,r.same s λ_ b=>b⟩
  .exact .inr ⟨a,c,f,s _ _ j,r.same s λ_ b=>b⟩
 |od=>exact Rep.same s (λ_ b=>b) h
 |al=>exact Rep.same s (λ_ b=>b) h
 |nu=>exact Rep.same s (λ_ b=>b) h
theorem _root_.L2.Same.none (s:Same H H')(h:H' a=Z8):H a=none:=by
 cases e:H a with
 |none=>rfl
 |some o=>rw[s a o e]at h;cases h
theorem StOk.same (s:Same H H')(h:StOk K F H σ ρ):StOk K F H' σ ρ where
 ext:=λa o e=>s a o (h.ext a o e)
 aK:=λa e=>h.aK a (s.none e)
 own:=λa i e=>by
  obtain⟨c,j,b⟩:=h.own a i e;refine⟨c,j,?_⟩;rcases b with⟨f,b⟩|⟨f,b⟩
  .exact .inl ⟨f,s _ _ b⟩
  .exact .inr ⟨f,s _ _ b⟩
 len:=h.len
 sl:=λi g d e=>by obtain⟨v,c,b⟩:=h.sl i g d e;exact⟨v,c,b.same s⟩
theorem nw.back (s:Same H H')(h:nw H' a):nw H a:=by
 cases a with
 |none=>exact h
 |some a=>exact s.none h
theorem nw.aK (b:∀a,H a=Z8->F.V a)(h:nw H a):bZ F a:=by
 cases a with
 |none=>exact h.elim
 |some a=>exact b a h
theorem fT.aK (h:fT F a):bZ F a:=by
 cases a with
 |none=>exact h
 |some a=>exact h.2
theorem Bin.aK (h:Bin F a):bZ F a:=by
 cases a with
 |none=>exact h.elim
 |some a=>exact h.2.2
theorem BG.back (s:Same H H')(h:BG F H' g a):BG F H g a:=by
 cases g with
 |fr=>exact nw.back s h
 |od=>exact h
 |al=>exact h
 |nu=>exact h.elim (λh=>.inl (nw.back s h)) .inr
theorem BG.aK (b:∀a,H a=Z8->F.V a)(h:BG F H g a):bZ F a:=by
 cases g with
 |fr=>exact nw.aK b h
 |od=>exact fT.aK h
 |al=>exact h
 |nu=>exact h.elim (nw.aK b) Bin.aK
theorem Slot.rep (so:∀a i,F.O a=Z9 i->F.V a)(h:Slot K F H i g v d):Rep K H (bZ F) v d:=by
 cases g with
 |fr=>
  obtain⟨p,e,o,h⟩:=h;rcases h with⟨c,j,rfl,f,r⟩|⟨c,j,rfl,f,r⟩
  .exact⟨p,c,e,.inl ⟨f,so _ _ o⟩,r.weak λ_ b=>b.aK⟩
  .exact⟨p,c,e,f,so _ _ o,bC.same (λ_ _ e=>e) (λ_ b=>b.aK) r⟩
 |od=>exact Rep.weak (λ_ b=>b.aK) h
 |al=>exact h
 |nu=>exact Rep.weak (λ_ b=>Bin.aK b) h
theorem StOk.hJ (h:StOk K F H σ ρ):∀a i,F.O a=Z9 i->F.V a:=λa i e=>(h.own a i e).2.1
theorem StOk.rd (h:StOk K F H σ ρ){i:Nat}(e:zj ρ[i]?=.ok x):∃v,σ[i]?=Z9 (Z9 v)/\Rep K H (BG F H x.1) v x.2:=by
 cases c:ρ[i]? with
 |none=>rw[c]at e;cases e
 |some o=>
  cases o with
  |none=>rw[c]at e;cases e
  |some gd=>
   obtain⟨g,d⟩:=gd;rw[c]at e;obtain⟨v,j,a⟩:=h.sl i g d c;have k:=(Res.ok.inj e).symm;subst k;refine⟨v,j,?_⟩;by_cases f:imm d=Z7
   .show Rep K H (BG F H (if imm d=Z7 then _ else _)) v d;exact Rep.immB d f (a.rep h.hJ)
   .show Rep K H (BG F H (if imm d=Z7 then _ else _)) v d;rw[vm f];cases g with
    |fr=>exact a.rep h.hJ
    |od=>exact a
    |al=>exact a
    |nu=>exact Rep.weak (λ_ b=>.inr b) a
end
structure Gm where
 N:List Str
 sc:Scope
 blk:Bool:=Z6
 free:List Str
 fns:List (Str×Nat)
 cst:List Str
 cm:Bool:=Z7
 xc:Option (Str×Str):=Z8
 sub:List (Str×Str×Bool):=[]
 rs:List Str:=[]
 lR:List (Str×Str):=[]
section
variable (Γ:Gm)
def hP (i:Nat)(x:Str):Bool:=(Γ.N[i]?==Z9 x)&&(Γ.sc.names.lookup x==Z9 .local||Γ.sc.names.lookup x==Z9 .cell||Γ.sc.names.lookup x==Z9 .free)&& !(x==("__debug__":Str))&& !(x==("__classdict__":Str))
def oN (x:Str):Bool:=(Γ.sc.names.lookup x==Z9 .globalImplicit)&& !(x==("__debug__":Str))
def fD (x:Str):Bool:=oN Γ x&&Γ.free.contains x&& !(x==("__name__":Str))
def lS (i:Nat)(x:Str):Bool:=(Γ.N[i]?==Z9 x)&&(Γ.sc.names.lookup x==Z9 .local||(!Γ.blk&&Γ.sc.names.lookup x==Z9 .cell))
end
def tgIx:Tg->List Nat
 |.nm i=>[i]
 |.tp is=>is
def Cq (scope sc:Scope):Scope:={scope with names:=scope.names.map λ(n,k)=>if(k==.free&&sc.kind==.function&&sc.names.lookup n==Z9 .cell)then(n,.cell)else(n,k)}
def plainT:Expr->Bool
 |.UnaryOp .Not _ _=>Z6
 |.BoolOp _ _ _=>Z6
 |.IfExp _ _ _ _=>Z6
 |.Compare _ _ _ _=>Z6
 |_=>Z7
def Hf:Expr->Bool
 |.Compare _ _ _ _=>Z7
 |_=>Z6
def z5x:Expr->Bool
 |.Slice _ _ _ _=>Z6
 |_=>Z7
def Cr:Expr->Bool
 |.Call (.Name _ _) [] [] _=>Z6
 |_=>Z7
def zm:Expr->Bool
 |.Set _ _ _=>Z6
 |_=>Z7
def isTup:Expr->Bool
 |.Tuple _ _ _=>Z7
 |_=>Z6
def Cs:Expr->Option Str
 |.Name x _=>Z9 x
 |_=>Z8
def kA:Expr->Option Const
 |.Constant v _ _=>Z9 v
 |_=>Z8
def wU:Expr->Option (Expr×uf×Expr)
 |.BinOp l o r _=>Z9 (l,o,r)
 |_=>Z8
def Ct:Expr->Option (UnaryOp×Expr)
 |.UnaryOp o x _=>Z9 (o,x)
 |_=>Z8
def Cu:Expr->Option (Expr×List CmpOp×List Expr)
 |.Compare l o r _=>Z9 (l,o,r)
 |_=>Z8
def wV:Expr->Option (BoolOp×List Expr×Pos)
 |.BoolOp o xs p=>Z9 (o,xs,p)
 |_=>Z8
def wW:Expr->Option (Expr×Expr×Expr)
 |.IfExp t x y _=>Z9 (t,x,y)
 |_=>Z8
def rX:Expr->Option (List Expr)
 |.Tuple es _ _=>Z9 es
 |_=>Z8
def wX:Expr->Option (List Expr)
 |.List es _=>Z9 es
 |_=>Z8
def Hg:Expr->Option (List (Option Expr)×List Expr)
 |.Dict k v _=>Z9 (k,v)
 |_=>Z8
def oO:Expr->Option (Expr×Expr)
 |.Subscript x i _=>Z9 (x,i)
 |_=>Z8
def wY:Expr->Option (Option Expr×Option Expr×Option Expr)
 |.Slice l h s _=>Z9 (l,h,s)
 |_=>Z8
def Cv:Expr->Option (Expr×List Expr×List m6×Pos)
 |.Call f es k p=>Z9 (f,es,k,p)
 |_=>Z8
def Hh:Expr->Option (Expr×Str×Pos)
 |.Attribute x n p=>Z9 (x,n,p)
 |_=>Z8
def Hi:Expr->Option (Expr×List Comprehension×Scope)
 |.ListComp el gs s _=>Z9 (el,gs,s)
 |_=>Z8
def fU {α:Type}:List α->Option α
 | [x]=>Z9 x
 |_=>Z8
def oP {α:Type}:List α->Option (α×α)
 | [x,y]=>Z9 (x,y)
 |_=>Z8
def nM (e:Expr):Option (Str×List Expr):=(Cv e).bind λv=>if v.2.2.1.isEmpty then(Cs v.1).map λx=>(x,v.2.1)else Z8
def wZ (e:Expr):Option (Expr×Str×List Expr×Bool):=(Cv e).bind λv=>if v.2.2.1.isEmpty then(Hh v.1).map λu=>(u.1,u.2.1,v.2.1,u.2.2.endLine==v.2.2.2.line)else Z8
def w4 (f g:Expr->Bool)(o:BoolOp)(p:Pos):List Expr->Bool
 |x::y::r=>f x&&(if r.isEmpty then g y else g (.BoolOp o (y::r) p))
 |_=>Z6
def xb (n:Bool)(f:Expr->Bool):List Expr->Bool
 | []=>n
 |t::r=>r.isEmpty&&f t
def xd:C->Bool
 |.nil=>Z7
 |_=>Z6
def kW (f:Str->Bool)(e:Expr):Bool:=(Cs e).any f
def Cw (Γ:Gm):List Nat->List Expr->Bool
 | [],es=>es.isEmpty
 |i::is,es=>match es with|e::es=>kW (lS Γ i) e&&Cw Γ is es| []=>Z6
def zp (Γ:Gm):Tg->Expr->Bool
 |.nm i,e=>kW (lS Γ i) e
 |.tp is,e=>Γ.cm&&(rX e).any (Cw Γ is)
def Cy:uf->Bool
 |.Add|.Sub|.Mult|.FloorDiv|.Mod|.Pow=>Z7
 |_=>Z6
def z3f:CmpOp->Bool
 |.Is|.IsNot|.GtE=>Z6
 |_=>Z7
def Cz (T:String):Bool:=tysB.contains T
def tyB (Γ:Gm)(T:String)(t:Expr):Bool:=kW (λx=>(x==Str.ofString T)&&fD Γ x&&Cz T) t
def rY:List String:=["list","tuple","sorted","sum","any","dict"]
def NS:Tg->Bool
 |.nm _=>Z7
 |.tp _=>Z6
def CA:C->Expr->Bool
 |_,_=>Z7
mutual
def chkE (Γ:Gm):C->Expr->Bool
 |.var i,e=>kW (hP Γ i) e
 |.bU,e=>decide (kA e=Z9 .none)
 |.bl b,e=>decide (kA e=Z9 (.bool b))
 |.int i,e=>decide (kA e=Z9 (.int i))
 |.str x,e=>decide (kA e=Z9 (.str x))&&Z3 x
 |.glob k x,e=>kW (λy=>(x==y)&&oN Γ x&&(Γ.cst[k]?==Z9 x)) e
 |.bin op a b,e=>(wU e).any λv=>decide (op=v.2.1)&&Cy op&&chkE Γ a v.1&&chkE Γ b v.2.2
 |.cmp op a b,e=>(Cu e).any λv=>decide (v.2.1=[op])&&(fU v.2.2).any λr=>z3f op&& !(km op r)&&chkE Γ a v.1&&chkE Γ b r
 |.chain op op' a b c,e=>(Cu e).any λv=>decide (v.2.1=[op,op'])&&(oP v.2.2).any λr=>z3f op&&z3f op'&& !(o7 [op,op'] [r.1,r.2])&&chkE Γ a v.1&&(chkE Γ b r.1&&chkE Γ c r.2)
 |.and a b,e=>(wV e).any λv=>decide (v.1=.And)&&w4 (λx=>chkE Γ a x) (λx=>chkE Γ b x) .And v.2.2 v.2.1
 |.or a b,e=>(wV e).any λv=>decide (v.1=.Or)&&w4 (λx=>chkE Γ a x) (λx=>chkE Γ b x) .Or v.2.2 v.2.1
 |.not a,e=>(Ct e).any λv=>decide (v.1=.Not)&&chkE Γ a v.2
 |.rR c a b,e=>(wW e).any λv=>dZ Γ c v.1&&chkE Γ a v.2.1&&chkE Γ b v.2.2
 |.tup xs,e=>(rX e).any λes=>decide (es.length<=1000)&&dD Γ xs es
 |.lst xs,e=>(wX e).any λes=>decide (es.length<=1000)&&dD Γ xs es
 |.iP,e=>(Hg e).any λv=>v.1.isEmpty&&v.2.isEmpty
 |.ix a b,e=>(oO e).any λv=>z5x v.2&&chkE Γ a v.1&&chkE Γ b v.2
 |.sl a lo hi,e=>(oO e).any λv=>(wY v.2).any λs=>s.2.2.isNone&&chkE Γ a v.1&&oQ Γ lo s.1&&oQ Γ hi s.2.1
 |.call k f args,e=>(nM e).any λv=>(Γ.cm&&(v.1==f))&&oN Γ v.1&&(Γ.fns[k]?==Z9 (f,v.2.length))&&dD Γ args v.2&& !v.2.isEmpty
 |.bi f args,e=>(nM e).any λv=>(v.1==Str.ofString f)&&fD Γ v.1&&((["len","max"].contains f)&&(Γ.cm||f=="int"))&&dD Γ args v.2&& !v.2.isEmpty
 |.fB f a,e=>(nM e).any λv=>(v.1==Str.ofString f)&&fD Γ v.1&&(rY.contains f&&Γ.cm)&&(fU v.2).any λy=>!isStar y&&rZ Γ a y
 |.nH a ts,e=>(nM e).any λv=>(v.1==("isinstance":Str))&&fD Γ v.1&&(oP v.2).any λy=>!isStar y.1&&chkE Γ a y.1&&(fU ts).any λT=>tyB Γ T y.2
 |.mt m o args,e=>(wZ e).any λv=>((v.2.1==Str.ofString m)&& ["get"].contains m&&Cr v.1&&v.2.2.2&&decide (v.2.2.1.length<20))&&chkE Γ o v.1&&dD Γ args v.2.2.1&& !v.2.2.1.isEmpty
 |.comp nt js N' tg it cond elt,e=>(Hi e).any λv=>(fU v.2.1).any λg=>let CB:Gm:={Γ with N:=N',sc:=Cq v.2.2 Γ.sc,blk:=Z7,xc:=Z8}
  ((Γ.cm&&(g.is_async==0))&&(tgIx tg).all (λi=>decide (i<nt))&&rQ Γ.N Γ.sc v.2.2 N' nt js&&zm g.iter&&decide N'.Nodup)&&(zp CB tg g.target&&CA it g.target)&&oR Γ it g.iter&&xb (xd cond) (λt=>dZ CB cond t) g.ifs&&chkE CB elt v.1
 |.sortI i,e=>(nM e).any λv=>(Γ.cm&&(v.1==("sorted":Str)))&&fD Γ v.1&&(fU v.2).any λy=>(wZ y).any λm=>kW (hP Γ i) m.1&&(m.2.1==("items":Str))&&m.2.2.1.isEmpty&&m.2.2.2
 |.gW b x,e=>(nM e).any λv=>(v.1==("isinstance":Str))&&fD Γ v.1&&(oP v.2).any λy=>Γ.xc.any λz=>kW (λn=>(n==z.1)&&(Γ.sc.names.lookup n==Z9 .local)&& !(n==("__debug__":Str))&& !(n==("__classdict__":Str))) y.1&&kW (λC=>(C==x)&&oN Γ C&&Γ.sub.contains (z.2,x,b)) y.2
 |.iH _,_=>Z6
 |.tv _,_=>Z6
 |.nil,_=>Z6
 |.cons _ _,_=>Z6
def dZ (Γ:Gm):C->Expr->Bool
 |.and a b,e=>(wV e).any λv=>decide (v.1=.And)&&w4 (λx=>dZ Γ a x) (λx=>dZ Γ b x) .And v.2.2 v.2.1
 |.or a b,e=>(wV e).any λv=>decide (v.1=.Or)&&w4 (λx=>dZ Γ a x) (λx=>dZ Γ b x) .Or v.2.2 v.2.1
 |.not a,e=>(Ct e).any λv=>decide (v.1=.Not)&&dZ Γ a v.2
 |.tv a,e=>(plainT e||Hf e)&&chkE Γ a e
 |_,_=>Z6
def dD (Γ:Gm):C->List Expr->Bool
 |.nil,es=>es.isEmpty
 |.cons a r,es=>match es with|e::es=>!isStar e&&chkE Γ a e&&dD Γ r es|_=>Z6
 |_,_=>Z6
def oQ (Γ:Gm):C->Option Expr->Bool
 |.nil,e=>e.isNone
 |.tv a,e=>e.any λe=>chkE Γ a e
 |_,_=>Z6
def oR (Γ:Gm):C->Expr->Bool
 |.iH args,e=>(nM e).any λv=>(v.1==("range":Str))&&fD Γ v.1&&dD Γ args v.2&&(!v.2.isEmpty&&decide (v.2.length<=1))
 |.tv a,e=>zm e&&chkE Γ a e
 |_,_=>Z6
def rZ (Γ:Gm):C->Expr->Bool
 |.tv a,e=>chkE Γ a e
 |_,_=>Z6
end
def sD:C->Bool
 |_=>Z6
def xf (Γ:Gm)(it:C)(tg ie:Expr):Bool:=CA it tg&&oR Γ it ie
def CC:Stmt->Option (List Expr×Expr)
 |.Assign t v _=>Z9 (t,v)
 |_=>Z8
def CD:Stmt->Option Expr
 |.Expr v _=>Z9 v
 |_=>Z8
def Hj:Stmt->Option (Option Expr)
 |.Return v _=>Z9 v
 |_=>Z8
def Hk:Stmt->Option (Expr×List Stmt×List Stmt)
 |.If t A B _=>Z9 (t,A,B)
 |_=>Z8
def Hl:Stmt->Option (Expr×Expr×List Stmt×List Stmt)
 |.For t i B o _=>Z9 (t,i,B,o)
 |_=>Z8
def Hm:Stmt->Option (Expr×List Stmt×List Stmt)
 |.While t B o _=>Z9 (t,B,o)
 |_=>Z8
def CF:Stmt->Option (Str×List Expr)
 |.Raise (Z9 c) Z8 _=>nM c
 |_=>Z8
def Hn (e:Expr):Bool:=(kA e).any λk=>match k with|.str x=>Z3 x|_=>Z6
def CG:ExceptHandler->Option (Str×Str×List Stmt)
 |.ExceptHandler (Z9 (.Name x _)) (Z9 n) b _=>Z9 (x,n,b)
 |_=>Z8
def CH:Stmt->Option (Str×List Expr×Str×Str×List Stmt)
 |.Try [.Expr c _] [h] [] [] _=>(nM c).bind λv=>(CG h).map λu=>(v.1,v.2,u)
 |_=>Z8
mutual
def kB (Γ:Gm):S->Stmt->Bool
 |.asg t e,s=>(CC s).any λu=>(fU u.1).any λx=>zp Γ t x&& !sD e&&(NS t||(!z27 u.2&& !isTup u.2))&&chkE Γ e u.2
 |.cF i k v,s=>(CC s).any λu=>(fU u.1).any λx=>(oO x).any λw=>kW (hP Γ i) w.1&&z5x w.2&& !z27 u.2&&chkE Γ k w.2&&chkE Γ v u.2
 |.mut m i args,s=>(CD s).any λc=>(wZ c).any λv=>(kW (hP Γ i) v.1&&(v.2.1==Str.ofString m)&& ["append","extend"].contains m&&v.2.2.2&&decide (v.2.2.1.length<20))&& !v.2.2.1.isEmpty&&dD Γ args v.2.2.1
 |.drop e,s=>(CD s).any λv=>!z27 v&&chkE Γ e v
 |.ret e,s=>(Hj s).any λo=>o.any λv=>chkE Γ e v
 |.dJ c a b,s=>(Hk s).any λv=>dZ Γ c v.1&&chkL Γ a v.2.1&&chkL Γ b v.2.2
 |.bN t it b,s=>Γ.cm&&(Hl s).any λv=>zp Γ t v.1&&xf Γ it v.1 v.2.1&&chkL Γ b v.2.2.1&&v.2.2.2.isEmpty
 |.wh _ c b,s=>(Hm s).any λv=>dZ Γ c v.1&&chkL Γ b v.2.1&&v.2.2.isEmpty
 |.qD c,s=>(CF s).any λv=>(v.1==c)&&oN Γ c&&Γ.rs.contains c&&Γ.cm&&(fU v.2).any Hn
 |.nil,_=>Z6
 |.seq _ _,_=>Z6
def chkL (Γ:Gm):S->List Stmt->Bool
 |.nil,l=>l.isEmpty
 |.seq a b,l=>match l with|s::r=>kB Γ a s&&chkL Γ b r|_=>Z6
 |_,_=>Z6
end
def tD (K:Z5)(f:Rho->Res GD):TE:=λσ H Q=>∃ρ F x,StOk K F H σ ρ/\f ρ=.ok x/\∀v H',Same H H'->Rep K H' (BG F H x.1) v x.2->Q v H'
def eA (K:Z5)(f:Rho->Res Bool):TT:=λσ H Q=>∃ρ F b,StOk K F H σ ρ/\f ρ=.ok b/\∀H',Same H H'->Q b H'
def tDO (K:Z5)(f:Rho->Res (Option Int)):TO:=λσ H Q=>∃ρ F b,StOk K F H σ ρ/\f ρ=.ok b/\∀H',Same H H'->Q b H'
def dO (K:Z5)(F:Fm)(H H':Hp):List V->List GD->Prop
 |vs,[]=>vs=[]
 |vs,x::xs=>∃v r,vs=v::r/\Rep K H' (BG F H x.1) v x.2/\dO K F H H' r xs
def tDA (K:Z5)(f:Rho->Res (List GD)):TA:=λσ H Q=>∃ρ F xs,StOk K F H σ ρ/\f ρ=.ok xs/\∀vs H',Same H H'->dO K F H H' vs xs->Q vs H'
theorem _root_.L2.PE.imp (h:PE X e t)(i:∀a H Q,c a H Q->t a H Q):PE X e c:=λb s a H Q I q=>h b s a H Q I (i a H Q q)
theorem _root_.L2.PT.imp (h:PT X e t)(i:∀a H Q,c a H Q->t a H Q):PT X e c:=λb s a H Q I q=>h b s a H Q I (i a H Q q)
theorem _root_.L2.PW.imp (h:PW X e t)(i:∀a H Q,c a H Q->t a H Q):PW X e c:=λwh b s a H Q I q=>h wh b s a H Q I (i a H Q q)
theorem _root_.L2.PA.imp (h:PA X e t)(i:∀a H Q,c a H Q->t a H Q):PA X e c:=λpos b s a H Q I q=>h pos b s a H Q I (i a H Q q)
theorem _root_.L2.PO.imp (h:PO X e t)(i:∀a H Q,c a H Q->t a H Q):PO X e c:=λb s a H Q I q=>h b s a H Q I (i a H Q q)
theorem _root_.L2.PS.imp (h:PS X e t)(i:∀D a H,c D a H->t D a H):PS X e c:=λb s a H D I q=>h b s a H D I (i D a H q)
theorem _root_.L2.PSs.imp (h:PSs X e t)(i:∀D a H,c D a H->t D a H):PSs X e c:=λb s a H D I q=>h b s a H D I (i D a H q)
section
variable {K:Z5}{F:Fm}{H H1 H':Hp}
theorem dO.same:∀{vs:List V} {xs:List GD},Same H1 H'->Same H H1->dO K F H H1 vs xs->dO K F H H' vs xs
 |vs,[],_,_,r=>r
 |vs,x::xs,s,s0,r=>by obtain⟨v,t,e,h,q⟩:=r;exact⟨v,t,e,h.same s λ_ b=>b,q.same s s0⟩
theorem dO.back:∀{a:List V} {c:List GD},Same H H1->dO K F H1 H' a c->dO K F H H' a c
 |a,[],_,r=>r
 |a,x::c,s,r=>by obtain⟨v,t,e,h,q⟩:=r;exact⟨v,t,e,h.weak λ_ b=>b.back s,q.back s⟩
theorem dO.lT:∀{b:List V} {c:List GD},(∀x∈c,∀a,BG F H x.1 a->B a)->dO K F H H' b c->Reps K H' B b (c.map (·.2))
 |b,[],_,r=>r
 |b,x::c,d,r=>by obtain⟨v,t,e,h,q⟩:=r;exact⟨v,t,e,h.weak (d x a8),q.lT λy f=>d y (ba _ f)⟩
theorem dO.jE (b:∀a,H a=Z8->F.V a)(r:dO K F H H' c d):Reps K H' (bZ F) c (d.map (·.2)):=r.lT λ_ _ _ h=>h.aK b
theorem xg (f:∀a,H a=Z8->F.V a)(c:x∈d)(h:BG F H x.1 a):BG F H (cQ d) a:=by
 unfold cQ;by_cases e:(d.all λx=>x.1==.fr)=Z7
 .rw[vh e];have:=(bb.mp e) x c;have b:x.1=.fr:=by simpa using this
  rw[b]at h;exact h
 .rw[vm e];split
  .rename_i g;have:=(bb.mp g) x c;rcases gf.mp this with b|b
   .rw[eq_of_beq b]at h;exact .inl h
   .rw[eq_of_beq b]at h;exact h
  .exact h.aK f
theorem CJ (b:∀a,H a=Z8->F.V a)(s:Same H H1)(h:nw H1 a):BG F H (cQ c) a:=by
 unfold cQ;by_cases e:(c.all λx=>x.1==.fr)=Z7
 .rw[vh e];exact nw.back s h
 .rw[vm e];split
  .exact .inl (nw.back s h)
  .exact(nw.back s h).aK b
theorem sE (r:Rep K H' B v d)(h:∀a,B a->BG F H g a):Rep K H' (BG F H (gJ d g)) v d:=by
 unfold gJ;by_cases e:imm d=Z7
 .rw[vh e];exact Rep.immB d e r
 .rw[vm e];exact r.weak h
end
def zq (K:Z5)(m:D->D->Res D):R2:=λx y H Q=>∃Bx By dx dy d,Rep K H Bx x dx/\Rep K H By y dy/\m dx dy=.ok d/\∀w H',Same H H'->Rep K H' (λa=>nw H a\/Bx a\/By a) w d->Q w H'
def oS (X:Cx)(f:Value->Value->Sem Value)(m:D->D->Res D):Prop:=OpR X f (zq X.K m)
def CK (K:Z5)(m:D->D->Res D):R2:=λx y H Q=>∃Bx By dx dy d,Rep K H Bx x dx/\Rep K H By y dy/\m dx dy=.ok d/\∀w H',Same H H'->Rep K H' (λa=>nw H a\/Bx a\/By a) w d->(∀ds,d=.list ds->imms ds=Z7->Rep K H' (nw H) w d)->Q w H'
def CL (X:Cx)(f:Value->Value->Sem Value)(m:D->D->Res D):Prop:=OpR X f (CK X.K m)
theorem _root_.L2.OpR.imp (h:OpR X f r)(i:∀x y H Q,b x y H Q->r x y H Q):OpR X f b:=λa s c H x y v u Q I d e q=>h a s c H x y v u Q I d e (i x y H Q q)
def zjk (K:Z5)(m:List D->Res D):List V->Hp->VK->Prop:=λxs H Q=>∃B ds d,Reps K H B xs ds/\m ds=.ok d/\∀w H',Same H H'->Rep K H' (λa=>nw H a\/B a) w d->Q w H'
theorem _root_.L2.CallR.imp (h:CallR X f r)(i:∀x H Q,b x H Q->r x H Q):CallR X f b:=λa s c H x v Q I d q=>h a s c H x v Q I d (i x H Q q)
theorem NT (a:Z3 x=Z7)(b:Z3 y=Z7):Z3 (x++y)=true:=by
 unfold Z3 at *
 show(x.cps++y.cps).all _=Z7;rw[Array.all_append,a,b];rfl
theorem zt:Z3 x=Z7↔∀c∈x.cps.toList,c<0x110000:=by unfold Z3;rw[<-Array.all_toList];rw[bb];exact⟨λh c a=>by simpa using h c a,λh c a=>by simpa using h c a⟩
theorem NU (a:Z3 x=Z7)(hc:c∈x.cps.toList):Z3 ⟨#[c]⟩=true:=
 zt.mpr λd hd=>by
  have e:d=c:=by simpa using hd
  rw[e];exact zt.mp a c hc
theorem lU (h:n<=bD):n<=bf:=cc h (by rw[fj];unfold bD;decide)
theorem _root_.L2.cL.rel {K:Z5}(s:Same H b)(h:cL K H a c):cL K b a c:=h.keep (B:=λ_=>True) λa o e _=>s a o e
section
variable {X:Cx}
def NV (K:Z5):R2:=λx y H Q=>∃l b xs zs,x=.ref l/\y=.ref b/\SqL K H l xs/\SqL K H b zs/\xs.length+zs.length<=bf/\∀p,H p=Z8->Q (.ref p) (upd H p (.lst (xs++zs)))
theorem NW:OpR X (iq .Add) (NV X.K):=by
 rintro k s M H x y v u Q I w z ⟨l,b,N,O,rfl,rfl,A,B,m,q⟩
 cases w;cases z;obtain⟨c,o,C,_⟩:=I.list A;obtain⟨a,p,D,_⟩:=I.list B;obtain⟨⟨E,dd,r,sl⟩,n,ho,G,_,hd⟩:=C;obtain⟨⟨t,f,g,h⟩,J,d,i,_,j⟩:=D;subst G hd i j;have e:c.toArray.size+a.toArray.size<=bf:=by rw[bw,bw,<-o.length,<-p.length];exact m
 refine pz ⟨_,ho,rfl⟩ ⟨_,d,rfl⟩ noFill_list_add seq_list_add PySem.F.slot_list_add PySem.F.entry_list_add (PySem.F.args_list_add_2 _ _) (list_addW l b c.toArray a.toArray n J dd f sl h e) ⟨ho,d,?_⟩;have L:c.toArray++a.toArray=(c++a).toArray:=by simp
 rw[L];exact⟨.ref _,_,I.lnew (o.append p) (ao▸m),rfl,q _ I.fresh⟩
def NY (K:Z5):R2:=λx y H Q=>∃a b ys,x=.ref a/\y=.ref b/\cL K H a []/\cL K H b ys/\Q (.ref b) H
theorem NZ:OpR X (iq .Add) (NY X.K):=by
 rintro i s E H x y v u Q I m o ⟨l,b,G,rfl,rfl,p,r,q⟩
 cases m;cases o;obtain⟨t,w,z,_⟩:=I.tuple p;obtain⟨a,J,A,_⟩:=I.tuple r;cases w;obtain⟨⟨B,dd,j,sl⟩,ho,C,n,hd⟩:=z;obtain⟨⟨k,d,e,f⟩,c,g,D,h⟩:=A;subst C hd g h;refine pz ⟨_,ho,rfl⟩ ⟨_,c,rfl⟩ o8 sk PySem.F.slot_tuple_add PySem.F.entry_tuple_add (PySem.F.args_tuple_add_2 _ _) (tuple_addW0 l b _ a.toArray n D dd d sl f (by simp)) ⟨ho,c,?_⟩;exact⟨.ref b,H,I,rfl,q⟩
variable {K:Z5}{H:Hp}{B:Ad->Prop}{v:V}
theorem nN (r:Rep K H B v (.list c)):∃a b,v=.ref a/\SqL K H a b/\Reps K H B b c:=by
 obtain⟨a,b,e,h,q⟩:=r;refine⟨a,b,e,?_,q⟩;rcases h with⟨h,_⟩|⟨h|h,_⟩
 .exact .inl (.inl h)
 .exact .inl (.inr h)
 .exact .inr h
theorem oT (c:H p=Z8)(r:Reps K H B b d)(e:∀a,B a->B' a)(f:B' (Z9 p)):Rep K (upd H p (.lst b)) B' (.ref p) (.list d):=⟨p,b,rfl,.inl ⟨cK,f⟩,r.same (Same.upd c) e⟩
theorem zu (c:H p=Z8)(r:Reps K H B b d)(e:∀a,B a->f a):Rep K (upd H p (.tup b)) f (.ref p) (.tuple d):=⟨p,b,rfl,.inl (.inl cK),r.same (Same.upd c) e⟩
theorem fV {b:Type}{a:b}(h:(Res.no:Res b)=.ok a):False:=by cases h
theorem N0:CL X (iq .Add) (dM .Add):=by
 refine OpR.imp ((ND.or NW).or NZ) λx y H Q h=>?_;obtain⟨u,v,w,A,d,k,l,e,q⟩:=h;cases w<;>try (exact(fV e).elim)
 all_goals cases A<;>try (exact(fV e).elim)
 case int.int i j=>cases e;have r:=k;have s:=l;subst r s;exact .inl (.inl (NK (q _ H (Same.refl H) rfl λm z=>by cases z)))
 case str.str i j=>
  have r:=k.1;have s:=l.1;subst r s;have e:(if i.length+j.length<=bD then Res.ok (Z2 (i++j))else Res.no)=Res.ok d:=e;split at e
  .rename_i hl;cases e;exact .inl (.inl (NL (lU hl) (q _ H (Same.refl H) ⟨rfl,NT k.2 l.2⟩ λm z=>by cases z)))
  .cases e
 case list.list xs ys=>
  have e:(if xs.length+ys.length<=bD then Res.ok (Z1 (xs++ys))else Res.no)=Res.ok d:=e;split at e
  .rename_i hl;cases e;obtain⟨a,t,rfl,n,c⟩:=nN k;obtain⟨b,ws,rfl,o,f⟩:=nN l;refine .inl (.inr ⟨a,b,t,ws,rfl,rfl,n,o,lU (by rw[c.length,f.length];exact hl),λp g=>q _ _ (Same.upd g) ?_ ?_⟩)
   .exact oT g (Reps.append (c.weak λ_ z=>.inr (.inl z)) (f.weak λ_ z=>.inr (.inr z))) (λ_ z=>z) (.inl g)
   .intro m z B;cases z;exact oT g (Reps.immB _ B (Reps.append (c.weak (B':=λa=>nw H a\/u a\/v a) λ_ z=>.inr (.inl z)) (f.weak λ_ z=>.inr (.inr z)))) (λ_ z=>z) g
  .cases e
 case tuple.tuple xs ys=>
  have e:(if xs.length+ys.length<=bD then Res.ok (PyData.tuple (xs++ys))else Res.no)=Res.ok d:=e;split at e
  .rename_i hl;cases e;obtain⟨a,t,rfl,n,c⟩:=k;obtain⟨b,ws,rfl,o,f⟩:=l;cases t with
   |nil=>
    have:xs=[]:=by have:=c.length;exact jm.mp this.symm
    subst this;exact .inr ⟨a,b,ws,rfl,rfl,n,o,q _ H (Same.refl H) ⟨b,ws,rfl,o,f.weak λ_ z=>.inr (.inr z)⟩ λm z=>by cases z⟩
   |cons C D=>
    refine .inl (.inl (.inr (.inr (.inr ⟨a,b,C::D,ws,rfl,rfl,n,o,by simp,lU (by rw[c.length,f.length];exact hl),λz=>?_,λz p g=>q _ _ (Same.upd g) ?_ λm z=>by cases z⟩))))
    .subst z;have:ys=[]:=by have:=f.length;exact jm.mp this.symm
     subst this;rw[e9]at q;exact q _ H (Same.refl H) ⟨a,_,rfl,n,c.weak λ_ z=>.inr (.inl z)⟩ λm z=>by cases z
    .exact zu g (Reps.append (c.weak λ_ z=>.inr (.inl z)) (f.weak λ_ z=>.inr (.inr z))) (λ_ z=>z)
  .cases e
theorem zv {gd:Int->Int->D}(h:OpR X f (rI b g))(a:∀i j H B,Rep X.K H B (g i j) (gd i j))(hm:∀dx dy d,m dx dy=.ok d->∃i j,dx=.int i/\dy=.int j/\b i j/\d=gd i j):CL X f m:=by refine OpR.imp h λx y H Q h=>?_;obtain⟨n,o,dx,dy,d,k,l,e,q⟩:=h;obtain⟨i,j,rfl,rfl,c,rfl⟩:=hm dx dy d e;exact⟨i,j,k,l,c,q _ H (Same.refl H) (a i j _ _) λ_ _ _=>a i j _ _⟩
theorem N1 (h:OpR X f (kP g)):OpR X f (rI (λ_ _=>True) g):=OpR.imp h λx y H Q ⟨i,j,a,b,_,q⟩=>⟨i,j,a,b,q⟩
theorem N2:OpR X (iq .FloorDiv) (rI (λ_ j=>0<j/\j<2 ^ 200) λi j=>.int (i/j)):=opI λi j _ _ _ _ _ hc q=>by
 refine floordiv_int (by omega) (by rw[Int.fdiv_eq_ediv_of_nonneg i (by omega)];exact q) (.inl (PyProof.noPylong_of_log2 ?_));have a:j.natAbs<2 ^ 200:=by omega
 have b:=(Nat.log2_lt (by omega)).mpr a;omega
def N3:R2:=λx y H Q=>∃a n,x=.str a/\y=.int n/\(0<=n/\n<=bD/\a.length*n.toNat<=bD)/\Q (.str ⟨(nI n.toNat a.cps.toList).toArray⟩) H
theorem N4 {a:Type}(n:Nat):nI n ([]:List a)=[]:=by
 unfold nI
 induction n with
 |zero=>rfl
 |succ n b=>rw[rq,List.flatten_cons,b];rfl
theorem Ho (a:Array Nat):∀k acc,(b8 k a).foldl (·++·) acc.toArray=(acc++nI k a.toList).toArray
 |0,acc=>by simp[nI]
 |k+1,acc=>by
  rw[rq,kt];have e:acc.toArray++a=(acc++a.toList).toArray:=by simp
  rw[e,Ho a k];rw[c9];rfl
theorem N5 (h:0<=n):Txt.mul a n=⟨(nI n.toNat a.cps.toList).toArray⟩:=by
 unfold Txt.mul;by_cases c:n<1
 .obtain rfl:n=0:=by omega
  rw[vh c];rfl
 .rw[vm c];split
  .rename_i b;rcases gf.mp b with b|b
   .obtain rfl:n=1:=vt b;show a=⟨(a.cps.toList++[]).toArray⟩;rw[e9]
   .have e:a.cps.size=0:=vt b;have d:=jm.mp (aw▸e);rw[d,N4];have f:a.cps=#[]:=by rw[<-Array.toArray_toList (xs:=a.cps),d]
    cases a;cases f;rfl
  .have :=Ho a.cps n.toNat [];exact congrArg Str.mk this
theorem N6 (h:Z3 a=Z7)(n:Nat):Z3 ⟨(nI n a.cps.toList).toArray⟩=true:=by unfold Z3 at h ⊢;rw[<-Array.all_toList,bb]at h ⊢;intro c d;obtain⟨l,e,b⟩:=List.mem_flatten.mp d;rw[(List.mem_replicate.mp e).2]at b;exact h c b
theorem N7:OpR X (iq .Mult) N3:=by
 rintro pins s σ H x y v u Q I b c ⟨a,n,rfl,rfl,⟨h0,hn,d⟩,q⟩
 obtain⟨t,rfl⟩:=b;obtain⟨e,rfl⟩:=c;unfold bD at hn d;refine SB.mul (PyProof.Rows.mulOk_of a.length n.toNat (ah _) (by omega) (by omega) (by omega) (by omega)) λf k=>?_;rw[N5 h0];exact⟨.str _,H,I.tok _,⟨_,rfl⟩,q⟩
theorem N8 (f:uf)(h:Cy f=Z7):CL X (iq f) (dM f):=by
 cases f<;>try (cases h;done)
 case Add=>exact N0
 case Sub=>
  refine zv (N1 Mp) (gd:=λi j=>.int (i-j)) (λ_ _ _ _=>rfl) λdx b d e=>?_;cases dx<;>try (exact(fV e).elim)
  cases b<;>try (exact(fV e).elim)
  cases e;simp_all
 case Mult=>
  refine OpR.imp (Mq.or N7) λx y H Q h=>?_;obtain⟨p,r,dx,b,d,l,m,e,q⟩:=h;cases dx<;>try (exact(fV e).elim)
  all_goals cases b<;>try (exact(fV e).elim)
  case int.int i j=>
   have e:(if(-(2 ^ 64)<i/\i<2 ^ 64)\/(-(2 ^ 64)<j/\j<2 ^ 64)then Res.ok (Z0 (i*j))else Res.no)=Res.ok d:=e;split at e
   .rename_i c;cases e;exact .inl ⟨i,j,l,m,c,q _ H (Same.refl H) rfl λo z=>by cases z⟩
   .cases e
  case str.int a n=>
   have e:(if 0<=n/\n<=bD/\a.length*n.toNat<=bD then Res.ok (Z2 ⟨(nI n.toNat a.cps.toList).toArray⟩)else Res.no)=Res.ok d:=e;split at e
   .rename_i c;cases e;obtain⟨g,k⟩:=l;exact .inr ⟨a,n,g,m,c,q _ H (Same.refl H) ⟨rfl,N6 k _⟩ λo z=>by cases z⟩
   .cases e
 case FloorDiv=>
  refine zv N2 (gd:=λi j=>.int (i/j)) (λ_ _ _ _=>rfl) λdx b d e=>?_;cases dx<;>try (exact(fV e).elim)
  cases b<;>try (exact(fV e).elim)
  rename_i i j;have e:(if 0<j/\j<2 ^ 200 then Res.ok (Z0 (i/j))else Res.no)=Res.ok d:=e;split at e
  .rename_i c;cases e;simp_all
  .cases e
 case Mod=>
  refine zv Mr (gd:=λi j=>.int (i%j)) (λ_ _ _ _=>rfl) λdx b d e=>?_;cases dx<;>try (exact(fV e).elim)
  cases b<;>try (exact(fV e).elim)
  rename_i i j;have e:(if 0<j then Res.ok (Z0 (i%j))else Res.no)=Res.ok d:=e;split at e
  .rename_i c;cases e;simp_all
  .cases e
 case Pow=>
  refine zv Mt (gd:=λi j=>.int (i ^ j.toNat)) (λ_ _ _ _=>rfl) λdx b d e=>?_;cases dx<;>try (exact(fV e).elim)
  cases b<;>try (exact(fV e).elim)
  rename_i i j;have e:(if 0<=j/\j<=1000/\i.natAbs<2 ^ 64 then Res.ok (Z0 (i ^ j.toNat))else Res.no)=Res.ok d:=e;split at e
  .rename_i c;cases e;exact⟨_,_,rfl,rfl,⟨c.1,by omega,c.2.2⟩,rfl⟩
  .cases e
end
section
variable {X:Cx}{pins:List (Addr×Obj)}{σ:L2.St}{H:Hp}{s:ak}{B:Ad->Prop}
mutual
theorem Rep.reads (I:Inv X pins σ H s):∀{v:V} {u:Value} (d:ag) (n:Nat),shal n d=Z7->Rep X.K H B v d->RelV v u->(∃as,Reads s.heap u d as)/\d.canLay0=Z7/\d.depth<=n
 |v,u,.none,n,_,r,q=>by have e:v=.bU:=r;subst e;cases q;exact⟨⟨[],.none⟩,by simp only[ZZ],e8 _⟩
 |v,u,.bool b,n,_,r,q=>by have e:v=.bl b:=r;subst e;cases q;exact⟨⟨[],.bool b⟩,by simp only[ZZ],e8 _⟩
 |v,u,.int b,n,_,r,q=>by have e:v=.int b:=r;subst e;obtain⟨t,rfl⟩:=q;exact⟨⟨[],.int b t⟩,by simp only[ZZ],e8 _⟩
 |v,u,.str b,n,_,r,q=>by obtain⟨e,ok⟩:v=.str b/\_:=r;subst e;obtain⟨t,rfl⟩:=q;exact⟨⟨[],.str b t⟩,by simp only[ZZ];exact ok,e8 _⟩
 |v,u,.tuple ds,0,h,r,q=>by cases h
 |v,u,.list ds,0,h,r,q=>by cases h
 |v,u,.tuple ds,n+1,h,r,q=>by obtain⟨a,vs,e,h1,r1⟩:=r;subst e;cases q;obtain⟨its,rv,⟨o,ho,hc,k,hd⟩,_⟩:=I.tuple h1;obtain⟨⟨as,ra⟩,c,dp⟩:=Reps.reads I ds n (h) r1 rv;refine⟨⟨as,.tuple ho hc hd (by simpa using ra)⟩,by simp only[ZZ];exact c,?_⟩;simp only[PyData.depth];omega
 |v,u,.list ds,n+1,h,r,q=>by obtain⟨a,vs,e,h1,r1⟩:=nN r;subst e;cases q;obtain⟨its,rv,⟨o,k,ho,hc,_,hd⟩,_⟩:=I.list h1;obtain⟨⟨as,ra⟩,c,dp⟩:=Reps.reads I ds n (h) r1 rv;refine⟨⟨a::as,.list ho hc hd (by simpa using ra)⟩,by simp only[ZZ];exact c,?_⟩;simp only[PyData.depth];omega
 |v,u,.dict es,n,h,r,q=>by cases n<;>cases h
theorem Reps.reads (I:Inv X pins σ H s):∀{vs:List V} {us:List Value} (ds:List ag) (n:Nat),eE n ds=Z7->Reps X.K H B vs ds->Vals vs us->(∃as,nz s.heap us ds as)/\ZY ds=Z7/\ZX ds<=n
 |vs,us,[],n,_,r,q=>by have e:vs=[]:=r;subst e;cases q;exact⟨⟨[],.nil⟩,by simp only[ZY],e8 _⟩
 |vs,us,d::ds,n,h,r,q=>by
  obtain⟨v,t,e,h1,r1⟩:=r;subst e;rw[eE,a6]at h;cases q with
  |cons q1 q2=>obtain⟨⟨as,ra⟩,c,dp⟩:=Rep.reads I d n h.1 h1 q1;obtain⟨⟨bs,rb⟩,c2,CM⟩:=Reps.reads I ds n h.2 r1 q2;refine⟨⟨as++bs,.cons ra rb⟩,by simp only[ZY,c,c2,sr],?_⟩;simp only[ZX];exact Nat.max_le.mpr ⟨dp,CM⟩
end
end
section
variable {X:Cx}
def mB (m:D->D->Res Bool):D->D->Res D:=λx y=>m x y>>=λb=>.ok (.bool b)
theorem xh (h:mB m x y=.ok d):∃b,m x y=.ok b/\d=.bool b:=by obtain⟨b,a,c⟩:=Res.aA h;exact⟨b,a,(Res.ok.inj c).symm⟩
theorem CN (hu:X.A.units+64<cLine):oS X (er .Eq) (mB (cmpD .Eq)):=by
 rintro a s n H x y v u Q I c f ⟨o,p,dx,dy,d,g,h,e,q⟩
 obtain⟨b,i,rfl⟩:=xh e;have e:=i;have e:(if(shal 40 dx&&shal 40 dy)=Z7 then Res.ok (bT dx dy)else Res.no)=Res.ok b:=e;split at e
 .rename_i hs;cases e;rw[a6]at hs;obtain⟨⟨as,j⟩,k,r⟩:=Rep.reads I dx 40 hs.1 g c;obtain⟨⟨bs,l⟩,m,t⟩:=Rep.reads I dy 40 hs.2 h f;exact SeqAt.compareEq_reads j l k m (by omega) ⟨.bl _,H,I,rfl,q _ H (Same.refl H) rfl⟩
 .cases e
theorem CO (hu:X.A.units+64<cLine):oS X (er .NotEq) (mB (cmpD .NotEq)):=by
 rintro a s n H x y v u Q I c f ⟨o,p,dx,dy,d,g,h,e,q⟩
 obtain⟨b,i,rfl⟩:=xh e;have e:=i;have e:(if(shal 40 dx&&shal 40 dy)=Z7 then Res.ok (!bT dx dy)else Res.no)=Res.ok b:=e;split at e
 .rename_i hs;cases e;rw[a6]at hs;obtain⟨⟨as,j⟩,k,r⟩:=Rep.reads I dx 40 hs.1 g c;obtain⟨⟨bs,l⟩,m,t⟩:=Rep.reads I dy 40 hs.2 h f;exact SeqAt.compareNe_reads j l k m (by omega) ⟨.bl _,H,I,rfl,q _ H (Same.refl H) rfl⟩
 .cases e
theorem zm4 (h:OpR X (er a) r)(f:∀i j b H Q,cmpD a (.int i) (.int j)=.ok b->Q (.bl b) H->r (.int i) (.int j) H Q)
  (hm:∀dx dy b,cmpD a dx dy=.ok b->∃i j,dx=.int i/\dy=.int j):oS X (er a) (mB (cmpD a)):=by
 refine OpR.imp h λx y H Q h=>?_;obtain⟨l,m,dx,dy,d,g,k,e,q⟩:=h;obtain⟨b,c,rfl⟩:=xh e;obtain⟨i,j,rfl,rfl⟩:=hm dx dy b c;subst g k;exact f i j b H Q c (q _ H (Same.refl H) rfl)
theorem CP:oS X (er .Lt) (mB (cmpD .Lt)):=zm4 Cf (λi j b H Q e q=>by cases e;exact NM q) λa c b e=>by cases a<;>first|exact(fV e).elim|(cases c<;>first|exact⟨_,_,rfl,rfl⟩|exact(fV e).elim)
theorem CQ:oS X (er .LtE) (mB (cmpD .LtE)):=zm4 Cg (λi j b H Q e q=>by cases e;exact NN q) λdx dy b e=>by cases dx<;>first|exact(fV e).elim|(cases dy<;>first|exact⟨_,_,rfl,rfl⟩|exact(fV e).elim)
theorem CS:oS X (er .Gt) (mB (cmpD .Gt)):=zm4 Ci (λi j b H Q e q=>by cases e;exact NO q) λa c b e=>by cases a<;>first|exact(fV e).elim|(cases c<;>first|exact⟨_,_,rfl,rfl⟩|exact(fV e).elim)
theorem bC.val {K:Z5}(k:Key):∀{kvs:List (Key×V)} {es:cR},bC K H B kvs es->match gK es (kD k)with|some d=>∃v,cV kvs k=Z9 v/\Rep K H B v d|none=>cV kvs k=Z8
 |kvs,[],r=>by have e:=r;subst e;exact rfl
 |kvs,(kd,d)::es,r=>by
  obtain⟨a,v,t,e,c,ok,h,q⟩:=r;subst e c;by_cases z:a=k
  .subst z
   have b:gK ((kD a,d)::es) (kD a)=Z9 d:=by
    have:eqK (kD a) (kD a)=true:=by cases a<;>simp[kD,eqK]
    unfold gK;rw[List.find?_cons_of_pos (by exact this)];rfl
   rw[b];exact⟨v,zb rfl,h⟩
  .have f:eqK (kD a) (kD k)=false:=by
    rw[ue];intro w;apply z;cases a<;>cases k<;>simp[kD,eqK]at w<;>rw[w]
   have b:gK ((kD a,d)::es) (kD k)=gK es (kD k):=by unfold gK;rw[List.find?_cons_of_neg (f▸cv)]
   rw[b,zc z];exact bC.val k q
theorem xl {K:Z5}(h:jS d=Z7)(r:Rep K H B v d):∃k,d=kD k/\v=kV k/\keyOk k:=by
 cases d<;>try (cases h;done)
 case int i=>exact⟨.inl i,rfl,r,True.intro⟩
 case str x=>exact⟨.inr x,rfl,r.1,r.2⟩
theorem zik (hu:X.A.units+64<cLine)(ng:Bool)(I:Inv X h B H s)(m:RelV x v)(n:RelV y u)
  (o:Rep X.K H L x dx) (p:Rep X.K H M y dy) (e:inD dx dy=.ok b) (q:Q (.bl (if ng then !b else b)) H):
  wpAny (model X.prog X.w) X.A (er (if ng then .NotIn else .In) v u) (EP X h B Q) X.xe s:=by
 cases dy<;>try (cases e;done)
 case list xs=>
  change(if(shal 40 dx&&eE 40 xs)=Z7 then Res.ok (xs.any λy=>bT y dx)else .no)=_ at e;split at e
  .rename_i hs;cases e;rw[a6]at hs;obtain⟨⟨as,i⟩,j,C⟩:=Rep.reads I dx 40 hs.1 o m;obtain⟨⟨bs,l⟩,r,D⟩:=Rep.reads I (.list xs) 41 hs.2 p n;have c:ZY xs=true:=by simpa only[ZZ]using r
   cases ng
   .exact SeqAt.in_list_reads l i c j (by omega) ⟨.bl _,H,I,rfl,q⟩
   .exact SeqAt.notIn_list_reads l i c j (by omega) ⟨.bl _,H,I,rfl,q⟩
  .cases e
 case tuple xs=>
  change(if(shal 40 dx&&eE 40 xs)=Z7 then Res.ok (xs.any λy=>bT y dx)else .no)=_ at e;split at e
  .rename_i hs;cases e;rw[a6]at hs;obtain⟨⟨as,i⟩,j,C⟩:=Rep.reads I dx 40 hs.1 o m;obtain⟨⟨bs,l⟩,r,D⟩:=Rep.reads I (.tuple xs) 41 hs.2 p n;have c:ZY xs=true:=by simpa only[ZZ]using r
   cases ng
   .exact SeqAt.in_tuple_reads l i c j (by omega) ⟨.bl _,H,I,rfl,q⟩
   .exact SeqAt.notIn_tuple_reads l i c j (by omega) ⟨.bl _,H,I,rfl,q⟩
  .cases e
 case dict es=>
  change(if jS dx=Z7 then Res.ok (gK es dx).isSome else .no)=_ at e;split at e
  .rename_i E;cases e;obtain⟨k,rfl,rfl,_⟩:=xl E o;obtain⟨a,kvs,rfl,F,_,G⟩:=p;cases n;have f:=G.val k;have g:DGet H a (kV k) (cV kvs k):=DGet.k F
   have z:(cV kvs k).isSome=(gK es (kD k)).isSome:=by
    cases e:gK es (kD k)with
    |none=>rw[e]at f;rw[show cV kvs k=Z8 from f];rfl
    |some d=>rw[e]at f;obtain⟨v,f,_⟩:=f;rw[f];rfl
   cases ng
   .exact d_in (by omega) I g m λJ t=>⟨.bl _,H,t,rfl,by rw[z];exact q⟩
   .exact zkx (by omega) I g m λJ t=>⟨.bl _,H,t,rfl,by rw[z];exact q⟩
  .cases e
theorem CT (hu:X.A.units+64<cLine):oS X (er .In) (mB (cmpD .In)):=by
 rintro a s j H x y v u Q I c f ⟨k,l,dx,dy,d,g,h,e,q⟩
 obtain⟨b,i,rfl⟩:=xh e;exact zik hu Z6 I c f g h i (q _ H (Same.refl H) rfl)
theorem N9 (hu:X.A.units+64<cLine):oS X (er .NotIn) (mB (cmpD .NotIn)):=by
 rintro a s l H x y v u Q I c f ⟨m,n,dx,dy,d,g,h,e,q⟩
 obtain⟨b,i,rfl⟩:=xh e;obtain⟨o,j,k⟩:=Res.aA i;cases k;exact zik hu Z7 I c f g h j (q _ H (Same.refl H) rfl)
theorem uU (hu:X.A.units+64<cLine)(a:CmpOp)(h:z3f a=Z7):oS X (er a) (mB (cmpD a)):=by
 cases a<;>try (cases h;done)
 .exact CN hu
 .exact CO hu
 .exact CP
 .exact CQ
 .exact CS
 .exact CT hu
 .exact N9 hu
end
section
variable {X:Cx}{a b c e:Expr}{es:List Expr}{fa fb fc:Rho->Res GD}{pos:Pos}
theorem zw (h:PE X e (tC v))(r:∀H B,Rep X.K H B v d):PE X e (tD X.K λ_=>.ok (.fr,d)):=PE.imp h λa H Q ⟨b,F,x,so,e,q⟩=>by cases e;exact q v H (Same.refl H) (r H _)
theorem Oa {i:Nat}(hN:X.N[i]?=Z9 x)(c:Vis X.env.scope x)(hd:VI x)(a:(x==("__classdict__":Str))=Z6):PE X (.Name x pos) (tD X.K λb=>zj b[i]?):=PE.imp (rE hN c hd a) λg H Q ⟨b,F,x,so,e,q⟩=>by obtain⟨v,d,f⟩:=so.rd e;exact⟨v,d,q v H (Same.refl H) f⟩
theorem Ob (hg:Gl X x)(hm:X.mg x=Z9 u)(ru:RelV g u)(hd:VI x)(hi:imm d=Z7)(r:∀H (B:Ad->Prop),B Z8->Rep X.K H B g d):PE X (.Name x pos) (tD X.K λ_=>.ok (.fr,d)):=PE.imp (LR hg hm ru hd) λσ H Q ⟨ρ,F,x,so,e,q⟩=>by cases e;exact q _ H (Same.refl H) (Rep.immB d hi (r H (λ_=>True) True.intro))
theorem Hq {K:Z5}(r:Rep K H' B v d)(h:∀a,B a->BG F H g a)(n:∀b,d=.list b->imms b=Z7->Rep K H' (nw H) v d):Rep K H' (BG F H (gN d g)) v d:=by
 cases d with
 |list b=>
  show Rep K H' (BG F H (if imms b=Z7 then .fr else g)) v _;split
  .rename_i c;exact n b rfl c
  .exact r.weak h
 |_=>exact sE r h
theorem Oc (k:Cy i=Z7)(l:PE X a (tD X.K fa))(m:PE X b (tD X.K fb)):PE X (.BinOp a i b pos) (tD X.K λc=>fa c>>=λx=>fb c>>=λy=>dM i x.2 y.2>>=λd=>.ok (gN d (cQ [x,y]),d)):=
 PE.imp (Mn (N8 i k) l m) λE H Q ⟨c,F,z,so,e,q⟩=>by
  obtain⟨x,n,e⟩:=Res.aA e;obtain⟨y,o,e⟩:=Res.aA e;obtain⟨d,p,e⟩:=Res.aA e;cases e;refine⟨c,F,x,so,n,λv G f r=>⟨c,F,y,so.same f,o,λu I g s=>⟨_,_,x.2,y.2,d,r.same g λ_ z=>z,s,p,λw t A j B=>q w t ((f.trans g).trans A) (Hq j (λa h=>?_) λC z D=>(B C z D).weak λ_ z=>nw.back (f.trans g) z)⟩⟩⟩;rcases h with h|h|h
  .exact CJ so.aK (f.trans g) h
  .exact xg so.aK (by simp) h
  .exact xg so.aK (by simp) (h.back f)
theorem Hr (h:tD X.K (λa=>fa a>>=λx=>fb a>>=λy=>cmpD f x.2 y.2>>=λb=>.ok (.fr,.bool b)) j H Q):wq (zq X.K (mB (cmpD f))) (tD X.K fa) (tD X.K fb) j H Q:=by obtain⟨a,F,z,so,e,q⟩:=h;obtain⟨x,k,e⟩:=Res.aA e;obtain⟨y,l,e⟩:=Res.aA e;obtain⟨d,m,e⟩:=Res.aA e;cases e;exact⟨a,F,x,so,k,λv s g n=>⟨a,F,y,so.same g,l,λu t i o=>⟨_,_,x.2,y.2,.bool d,n.same i λ_ z=>z,o,by show(cmpD f x.2 y.2>>=λb=>Res.ok (ZW b))=_;rw[m];rfl,λw p r c=>q w p ((g.trans i).trans r) c⟩⟩⟩
theorem zru (hu:X.A.units+64<cLine)(d:z3f op=Z7)(hm:km op b=Z6)(e:PE X a (tD X.K fa))(f:PE X b (tD X.K fb)):
  PE X (.Compare a [op] [b] pos) (tD X.K λc=>fa c>>=λx=>fb c>>=λy=>cmpD op x.2 y.2>>=λb=>.ok (.fr,.bool b)):=
 PE.imp (Mx (uU hu op d) e f hm) λg H Q h=>Hr h
theorem Hs (i:∀a H Q,tD X.K f a H Q->t a H Q)(j:∀b x,f b=.ok x->∃c,x.2=.bool c)(a:L2.St)(H:Hp)(Q:Bool->Hp->Prop)(h:eA X.K (λb=>f b>>=λx=>iQ x.2) a H Q):BP t a H Q:=by obtain⟨b,F,c,so,e,q⟩:=h;obtain⟨x,d,e⟩:=Res.aA e;obtain⟨k,g⟩:=j b x d;rw[g]at e;cases e;refine i a H _ ⟨b,F,x,so,d,λv l s r=>?_⟩;rw[g]at r;exact⟨k,r,q l s⟩
theorem Od (e:(fa ρ>>=λx=>fb ρ>>=λy=>cmpD op x.2 y.2>>=λb=>Res.ok ((.fr,.bool b):GD))=.ok x):∃c,x.2=.bool c:=by obtain⟨x,e1,e⟩:=Res.aA e;obtain⟨y,e2,e⟩:=Res.aA e;obtain⟨d,e3,e⟩:=Res.aA e;cases e;exact⟨d,rfl⟩
theorem zs3 (hu:X.A.units+64<cLine)(d:z3f op=Z7)(hm:km op b=Z6)(f:PE X a (tD X.K fa))(g:PE X b (tD X.K fb)):
  PT X (.Compare a [op] [b] pos) (eA X.K λc=>(fa c>>=λx=>fb c>>=λy=>cmpD op x.2 y.2>>=λb=>Res.ok ((.fr,.bool b):GD))>>=λx=>iQ x.2):=
 PT.imp (My (uU hu op d) f g hm) (Hs (λi H Q h=>Hr h) λc x e=>Od e)
def zx (op op':CmpOp)(fa fb fc:Rho->Res GD):Rho->Res GD:=λρ=>fa ρ>>=λx=>fb ρ>>=λy=>cmpD op x.2 y.2>>=λk=>if k then fc ρ>>=λz=>cmpD op' y.2 z.2>>=λk'=>.ok (.fr,.bool k')else .ok (.fr,.bool Z6)
theorem Ht (h:tD X.K (zx i op' fa fb fc) σ H Q):y9 (zq X.K (mB (cmpD i))) (zq X.K (mB (cmpD op'))) (tD X.K fa) (tD X.K fb) (tD X.K fc) σ H Q:=by
 obtain⟨ρ,F,z,d,e,q⟩:=h;obtain⟨x,m,e⟩:=Res.aA e;obtain⟨y,n,e⟩:=Res.aA e;obtain⟨k,o,e⟩:=Res.aA e;refine⟨ρ,F,x,d,m,λv H1 s1 p=>⟨ρ,F,y,d.same s1,n,λu G a j=>⟨_,_,x.2,y.2,.bool k,p.same a λ_ z=>z,j,by show(cmpD i x.2 y.2>>=λb=>Res.ok (ZW b))=_;rw[o];rfl,λw r c f=>⟨k,f,?_⟩⟩⟩⟩;cases k with
 |false=>cases e;exact fQ (q _ r ((s1.trans a).trans c) rfl)
 |true=>obtain⟨g,s,e⟩:=Res.aA e;obtain⟨A,B,e⟩:=Res.aA e;cases e;refine fR ⟨ρ,F,g,d.same ((s1.trans a).trans c),s,λt I l rt=>⟨_,_,y.2,g.2,.bool A,j.same (c.trans l) λ_ z=>z,rt,by show(cmpD op' y.2 g.2>>=λb=>Res.ok (ZW b))=_;rw[B];rfl,λJ C D E=>q _ C (((s1.trans a).trans c).trans (l.trans D)) E⟩⟩
theorem zmc (hu:X.A.units+64<cLine)(f:z3f op=Z7)(e:z3f d=Z7)(hm:o7 [op,d] [b,c]=Z6)(g:PE X a (tD X.K fa))(i:PE X b (tD X.K fb))(j:PE X c (tD X.K fc)):
  PE X (.Compare a [op,d] [b,c] pos) (tD X.K (zx op d fa fb fc)):=
 PE.imp (zge (uU hu op f) (uU hu d e) g i j hm) λσ H Q h=>Ht h
theorem Oe (e:zx op op' fa fb fc ρ=.ok x):∃c,x.2=.bool c:=by
 obtain⟨x,a,e⟩:=Res.aA e;obtain⟨y,b,e⟩:=Res.aA e;obtain⟨k,d,e⟩:=Res.aA e;cases k with
 |false=>cases e;exact⟨_,rfl⟩
 |true=>obtain⟨f,g,e⟩:=Res.aA e;obtain⟨h,i,e⟩:=Res.aA e;cases e;exact⟨_,rfl⟩
theorem zl1 (hu:X.A.units+64<cLine)(i:z3f f=Z7)(g:z3f d=Z7)(hm:o7 [f,d] [b,c]=Z6)(j:PE X a (tD X.K fa))(k:PE X b (tD X.K fb))(l:PE X c (tD X.K fc)):
  PT X (.Compare a [f,d] [b,c] pos) (eA X.K λρ=>zx f d fa fb fc ρ>>=λx=>iQ x.2):=
 PT.imp (zfe (uU hu f i) (uU hu d g) j k l hm) (Hs (λσ H Q h=>Ht h) λρ x e=>Oe e)
def CU (fa fb:Rho->Res GD):Rho->Res GD:=λρ=>fa ρ>>=λx=>match x.2 with|.bool c=>if c then fb ρ else .ok (.fr,.bool Z6)|_=>.no
def Of (fa fb:Rho->Res GD):Rho->Res GD:=λρ=>fa ρ>>=λx=>match x.2 with|.bool c=>if c then .ok (.fr,.bool Z7)else fb ρ|_=>.no
theorem zy (c:Same H g)(so:StOk X.K F H h d)(e:f d=.ok x)(q:∀v a,Same H a->Rep X.K a (BG F H x.1) v x.2->Q v a):tD X.K f h g Q:=⟨d,F,x,so.same c,e,λv a s r=>q v a (c.trans s) (r.weak λ_ b=>b.back c)⟩
theorem Hu {rest:List Expr}(h:PE X a (tD X.K fa))(i:PE X (.BoolOp .And (b::rest) pos) (tD X.K fb)):PE X (.BoolOp .And (a::b::rest) pos) (tD X.K (CU fa fb)):=
 PE.imp (L3 h i) λn H Q ⟨j,F,z,so,e,q⟩=>by
  obtain⟨x,k,e⟩:=Res.aA e;refine⟨j,F,x,so,k,λv l f m=>?_⟩;obtain⟨g,d⟩:=x;cases d<;>try (cases e;done)
  rename_i c;refine⟨c,m,?_⟩;cases c with
  |true=>exact fR (zy f so e q)
  |false=>cases e;exact fQ (q _ l f rfl)
theorem xm {rest:List Expr}(h:PE X a (tD X.K fa))(i:PE X (.BoolOp .Or (b::rest) pos) (tD X.K fb)):PE X (.BoolOp .Or (a::b::rest) pos) (tD X.K (Of fa fb)):=
 PE.imp (L4 h i) λn H Q ⟨j,F,z,so,e,q⟩=>by
  obtain⟨x,k,e⟩:=Res.aA e;refine⟨j,F,x,so,k,λv l f m=>?_⟩;obtain⟨g,d⟩:=x;cases d<;>try (cases e;done)
  rename_i c;refine⟨c,m,?_⟩;cases c with
  |false=>exact fQ (zy f so e q)
  |true=>cases e;exact fR (q _ l f rfl)
theorem Hv {K:Z5}(r:Rep K H B v d)(e:iQ d=.ok k):rH K v H k:=by
 cases d with
 |none=>cases e;have c:v=.bU:=r;subst c;exact rfl
 |bool b=>cases e;have c:v=.bl b:=r;subst c;exact rfl
 |int b=>cases e;have c:v=.int b:=r;subst c;show(!decide (b=0))=(b != 0);rw[bne,lx]
 |str b=>
  have c:=r.1;subst c;simp only[iQ]at e;split at e
  .rename_i j;cases e;refine⟨lU j,?_⟩;rw[bne,lx]
   congr 1
   rw[decide_eq_decide];omega
  .cases e
 |tuple g=>cases e;obtain⟨a,f,c,h,q⟩:=r;subst c;refine .inr (.inl ⟨f,h,?_⟩);show(!g.isEmpty)=!f.isEmpty;have:=q.length;cases f<;>cases g<;>simp at this ⊢
 |list g=>cases e;obtain⟨a,f,c,h,q⟩:=nN r;subst c;refine .inl ⟨f,h,?_⟩;show(!g.isEmpty)=!f.isEmpty;have:=q.length;cases f<;>cases g<;>simp at this ⊢
 |dict es=>
  cases e;obtain⟨a,kvs,c,h,_,q⟩:=r;subst c;refine .inr (.inr ⟨kvs,h,?_⟩);cases es with
  |nil=>have i:kvs=[]:=q;subst i;rfl
  |cons l m=>obtain⟨k,v,t,i,_⟩:=q;subst i;rfl
theorem Og (m:PE X a (tD X.K fa)):PE X (.UnaryOp .Not a pos) (tD X.K λh=>fa h>>=λx=>iQ x.2>>=λc=>.ok (.fr,.bool (!c))):=by
 rintro d s l H Q I ⟨h,F,z,so,e,q⟩
 obtain⟨x,n,e⟩:=Res.aA e;obtain⟨k,o,e⟩:=Res.aA e;cases e;refine UnaryOp_ (aI (m d s l H (λv f=>Same H f/\Rep X.K f (BG F H x.1) v x.2) I ⟨h,F,x,so,n,λv f i j=>⟨i,j⟩⟩) λv i p=>?_);obtain⟨y,f,r,t,u,j⟩:=p;exact not_of (aI (GH d i l f y v (λb g=>b=k/\g=f) r t ⟨k,Hv j o,rfl,rfl⟩) λb w ⟨g,A,B,C⟩=>by subst B C;exact⟨.bl _,g,A,rfl,q _ g u rfl⟩)
theorem Oh (c:PE X e (tD X.K fa))(d:∀a,qj e X.env a=(do let v <-a;ux e.pos;tz [v] (u1 v))):PT X e (eA X.K λb=>fa b>>=λx=>iQ x.2):=PT.imp (zfk c d) λj H Q ⟨b,F,k,so,e,q⟩=>by obtain⟨x,f,e⟩:=Res.aA e;exact⟨b,F,x,so,f,λv g h i=>⟨k,Hv i e,q g h⟩⟩
section
variable {ta tb:Rho->Res Bool}{rest:List Expr}
theorem Hw (b:Same H H1)(so:StOk X.K F H σ ρ)(e:f ρ=.ok x)(q:∀a,Same H a->Q x a):eA X.K f σ H1 Q:=⟨ρ,F,x,so.same b,e,λa s=>q a (b.trans s)⟩
theorem w_and (f:PT X a (eA X.K g))(h:PW X (.BoolOp .And (b::rest) pos) (eA X.K i)):PW X (.BoolOp .And (a::b::rest) pos) (eA X.K λd=>g d>>=λc=>if c then i d else .ok Z6):=
 PW.imp (LZ f h) λm H Q ⟨d,F,k,so,e,q⟩=>by
  obtain⟨x,j,e⟩:=Res.aA e;refine⟨d,F,x,so,j,λn l=>?_⟩;cases x with
  |true=>exact fR (Hw l so e q)
  |false=>cases e;simp_all
theorem w_or (f:PT X a (eA X.K g))(h:PW X (.BoolOp .Or (b::rest) pos) (eA X.K i)):PW X (.BoolOp .Or (a::b::rest) pos) (eA X.K λd=>g d>>=λc=>if c then .ok Z7 else i d):=
 PW.imp (L0 f h) λm H Q ⟨d,F,k,so,e,q⟩=>by
  obtain⟨x,j,e⟩:=Res.aA e;refine⟨d,F,x,so,j,λn l=>?_⟩;cases x with
  |false=>exact fQ (Hw l so e q)
  |true=>cases e;simp_all
theorem qH (ha:PT X a (eA X.K ta)):PT X (.UnaryOp .Not a pos) (eA X.K λρ=>ta ρ>>=λc=>.ok (!c)):=PT.imp (Gx ha) λσ H Q ⟨ρ,F,k,so,e,q⟩=>by obtain⟨x,e1,e⟩:=Res.aA e;cases e;exact⟨ρ,F,x,so,e1,λH1 s1=>q H1 s1⟩
theorem Oi (hc:PT X c (eA X.K g))(h:PE X a (tD X.K fa))(i:PE X b (tD X.K fb)):PE X (.IfExp c a b pos) (tD X.K λd=>g d>>=λk=>if k then fa d else fb d):=
 PE.imp (L6 hc h i) λl H Q ⟨d,F,z,so,e,q⟩=>by
  obtain⟨x,j,e⟩:=Res.aA e;refine⟨d,F,x,so,j,λm f=>?_⟩;cases x with
  |true=>exact fR (zy f so e q)
  |false=>exact fQ (zy f so e q)
end
theorem Oj:PA X [] (tDA X.K λ_=>.ok []):=PA.imp rK λa H Q ⟨b,F,z,so,e,q⟩=>by cases e;exact q [] H (Same.refl H) rfl
theorem Ol (hs:isStar e=Z6)(f:PE X e (tD X.K fa))(hr:PA X es (tDA X.K fs)):PA X (e::es) (tDA X.K λa=>fa a>>=λx=>fs a>>=λb=>.ok (x::b)):=PA.imp (jR f hr hs) λl H Q ⟨a,F,z,so,e,q⟩=>by obtain⟨x,g,e⟩:=Res.aA e;obtain⟨b,h,e⟩:=Res.aA e;cases e;refine⟨a,F,x,so,g,λv m c i=>⟨a,F,b,so.same c,h,λj k d rs=>q _ k (c.trans d) ?_⟩⟩;exact⟨v,j,rfl,i.same d λ_ z=>z,rs.back c⟩
theorem Om {i}(h:PA X es (tDA X.K fs))(j:∀b d,fs b=.ok d->d.length<=bf):PE X (.Tuple es i pos) (tD X.K λb=>fs b>>=λc=>.ok (gJ (.tuple (c.map (·.2))) (cQ c),.tuple (c.map (·.2)))):=PE.imp (MD h) λm H Q ⟨b,F,z,so,e,q⟩=>by obtain⟨c,f,e⟩:=Res.aA e;cases e;refine⟨b,F,c,so,f,λn o k rs=>?_⟩;have r:=rs.lT λx l a h=>xg so.aK l h;refine⟨by rw[r.length,ae];exact j b c f,λp g=>q _ _ (k.trans (Same.upd g)) (sE (zu g r λ_ z=>z) λ_ z=>z)⟩
theorem Oq (h:PA X es (tDA X.K fs))(j:∀b f,fs b=.ok f->f.length<=bf):PE X (.List es pos) (tD X.K λb=>fs b>>=λc=>.ok (cQ c,.list (c.map (·.2)))):=PE.imp (ME h) λl H Q ⟨b,F,z,so,e,q⟩=>by obtain⟨c,g,e⟩:=Res.aA e;cases e;refine⟨b,F,c,so,g,λm n i rs=>?_⟩;have r:=rs.lT λx k a h=>xg so.aK k h;refine⟨by rw[r.length,ae];exact j b c g,λp d=>q _ _ (i.trans (Same.upd d)) (oT d r (λ_ z=>z) (CJ so.aK i d))⟩
theorem Ot:PE X (.Dict [] [] pos) (tD X.K λ_=>.ok (.fr,.dict [])):=PE.imp ML λb H Q ⟨c,F,z,so,e,q⟩=>by cases e;intro p a;exact q _ _ (Same.upd a) ⟨p,[],rfl,cK,a,rfl⟩
end
theorem Ou {b:Type}(a:List b)(i:Int):L2.cW a i=Mi.cW a i:=rfl
theorem Ov (n d:Nat)(o:Option Int):HT.aT n d o=Mi.aT n d o:=by cases o<;>rfl
theorem Reps.cut {K:Z5}(a b:Option Int)(r:Reps K H B c d):Reps K H B (Mi.cut c a b) (Mi.cut d a b):=by unfold Mi.cut;rw[r.length];exact(r.drop _).take _
theorem Reps.cW {K:Z5}(r:Reps K H B c b)(e:Mi.cW b i=Z9 d):∃v,L2.cW c i=Z9 v/\Rep K H B v d:=by
 unfold Mi.cW at e;cases a:Mi.iG b.length i with
 |none=>rw[a]at e;cases e
 |some j=>rw[a]at e;obtain⟨v,f,g⟩:=r.get e;refine⟨v,?_,g⟩;rw[Ou];unfold Mi.cW;rw[r.length,a];exact f
section
variable {X:Cx}{a b c e:Expr}{es:List Expr}{fa fb fc:Rho->Res GD}{pos:Pos}
theorem Ox (hu:X.A.units+64<cLine):kQ X (λx y H Q=>∃a v,x=.ref a/\DGet H a y (Z9 v)/\Q v H):=by intro b c e s k H x y v u Q I f i h hs;obtain⟨a,z,rfl,g,q⟩:=h;cases f;exact tail_any (MJ I g) PySem.F.slot_dict_getitem.lookup (zdp (by omega) I g i λl m j d=>⟨z,H,j,d,q⟩) hs
def CV (K:Z5):R2:=λx y H Q=>∃B B' dx dy d,Rep K H B x dx/\Rep K H B' y dy/\jU dx dy=.ok d/\∀w,Rep K H B w d->Q w H
theorem Oy (hu:X.A.units+64<cLine):kQ X (CV X.K):=by
 intro f g l s G H x y v u Q I J L h hs;refine(NF.or (Ox hu)) f g l s G H x y v u Q I J L ?_ hs;obtain⟨B,R,dx,dy,d,m,r,e,q⟩:=h;cases dx<;>try (cases e;done)
 case list xs=>
  cases dy<;>try (cases e;done)
  rename_i i;subst r;obtain⟨a,t,rfl,n,C⟩:=nN m;change Res.eK (Mi.cW xs i)=_ at e;cases b:Mi.cW xs i with
  |none=>rw[b]at e;cases e
  |some D=>rw[b]at e;cases e;obtain⟨w,o,p⟩:=C.cW b;exact .inl (.inl ⟨a,t,i,w,rfl,rfl,n,o,q w p⟩)
 case tuple xs=>
  cases dy<;>try (cases e;done)
  rename_i i;subst r;obtain⟨a,t,rfl,n,C⟩:=m;change Res.eK (Mi.cW xs i)=_ at e;cases b:Mi.cW xs i with
  |none=>rw[b]at e;cases e
  |some D=>rw[b]at e;cases e;obtain⟨w,o,p⟩:=C.cW b;exact .inl (.inr (.inl ⟨a,t,i,w,rfl,rfl,n,o,q w p⟩))
 case str z=>
  cases dy<;>try (cases e;done)
  rename_i i;have M:=m.1;subst M r;change(if z.length<=bD then Res.eK ((Mi.cW z.cps.toList i).map λc=>Z2 ⟨#[c]⟩)else .no)=_ at e;split at e
  .rename_i N;cases b:Mi.cW z.cps.toList i with
   |none=>rw[b]at e;cases e
   |some c=>
    rw[b]at e;cases e
    have hc:c∈z.cps.toList:=by
     unfold Mi.cW at b;cases E:Mi.iG z.cps.toList.length i with
     |none=>rw[E]at b;cases b
     |some j=>rw[E]at b;exact ck b
    exact .inl (.inr (.inr ⟨z,i,c,rfl,rfl,lU N,b,q _ ⟨rfl,NU m.2 hc⟩⟩))
  .cases e
 case dict es=>
  change(if jS _=Z7 then Res.eK (gK es _)else Res.no)=_ at e;split at e
  .rename_i O;obtain⟨k,rfl,rfl,_⟩:=xl O r;obtain⟨a,kvs,rfl,n,_,P⟩:=m;have F:=P.val k;cases b:gK es (kD k)with
   |none=>rw[b]at e;cases e
   |some D=>rw[b]at e F;cases e;obtain⟨w,o,p⟩:=F;exact .inr ⟨a,w,rfl,by rw[<-o];exact DGet.k n,q w p⟩
  .cases e
theorem Oz (h:z5x i=Z7):G1 i:=λo v=>by cases i<;>first|rfl|cases h
theorem d_ix (hu:X.A.units+64<cLine)(hs:z5x i=Z7)(h:PE X a (tD X.K fa))(j:PE X i (tD X.K k)):
  PE X (.Subscript a i pos) (tD X.K λb=>fa b>>=λx=>k b>>=λy=>jU x.2 y.2>>=λd=>.ok (gJ d x.1,d)):=
 PE.imp (MX (Oy hu) h j (Oz hs)) λs H Q ⟨b,F,z,so,e,q⟩=>by obtain⟨x,l,e⟩:=Res.aA e;obtain⟨y,m,e⟩:=Res.aA e;obtain⟨d,n,e⟩:=Res.aA e;cases e;exact⟨b,F,x,so,l,λv t f o=>⟨b,F,y,so.same f,m,λu p g r=>⟨_,_,x.2,y.2,d,o.same g λ_ z=>z,r,n,λw c=>q w p (f.trans g) (sE c λ_ z=>z)⟩⟩⟩
theorem OA (h:Z3 z=Z7)(a b:Option Int):Z3 (qF z a b)=true:=
 zt.mpr λc hc=>zt.mp h c (by
  have:c∈Mi.cut z.cps.toList a b:=by simpa[qF]using hc
  exact jd (je this))
theorem Hx (a b:Option Int)(n:Nat):iw a b 1 n=sliceRange ((Mi.aT n 0 a:Nat):Int) ((Mi.aT n n b:Nat):Int) 1:=by
 delta iw
 simp
 congr 1
 .cases a with
  |none=>rfl
  |some v=>
   simp only[Mi.aT];by_cases h:v<0
   .simp only[vh h];omega
   .simp only[vm h];omega
 .cases b with
  |none=>rfl
  |some v=>
   simp only[Mi.aT];by_cases h:v<0
   .simp only[vh h];omega
   .simp only[vm h];omega
theorem OB (n d:Nat)(hd:d<=n)(o:Option Int):Mi.aT n d o<=n:=by rw[<-Ov];exact HT.rN n d hd o
theorem OC (z:Str)(a b:Option Int):Txt.slice z a b=qF z a b:=by
 have hn:z.cps.toList.length=z.length:=by simp[Str.length]
 have e:(iw a b 1 z.length).filterMap (z.cps[·]?)=Mi.cut z.cps.toList a b:=by rw[Hx,qp,pick_run];unfold Mi.cut;rw[hn]
 have f:(iw a b 1 z.length).length=Mi.aT z.length z.length b-Mi.aT z.length 0 a:=by rw[Hx,qp,ae,ci]
 unfold Txt.slice;split
 .rename_i hc;simp at hc;have g:=OB z.length z.length (ah _) b
  have c:Mi.cut z.cps.toList a b=z.cps.toList:=by
   unfold Mi.cut;rw[hn];by_cases h0:Mi.aT z.length 0 a=0
   .rw[h0,List.drop_zero,fu (by grind)]
   .have d:z.length=0:=by omega
    have:z.cps.toList=[]:=jm.mp (hn▸d);rw[this];simp
  unfold qF;rw[c]
 .unfold qF;rw[<-e]
def CW (K:Z5):V->Option Int->Option Int->Hp->VK->Prop:=λx lo hi H Q=>∃B dx d,Rep K H B x dx/\oM dx lo hi=.ok d/\∀w H',Same H H'->Rep K H' (λa=>nw H a\/B a) w d->(∀ds,d=.list ds->imms ds=Z7->Rep K H' (nw H) w d)->Q w H'
theorem OD:nG X (CW X.K):=by
 intro g s n H x v o t b c sl Q I u hs pl pu h;refine(NG.or MV) g s n H x v o t b c sl Q I u hs pl pu ?_;obtain⟨B,w,d,r,e,q⟩:=h;cases w<;>try (cases e;done)
 case list xs=>cases e;obtain⟨a,j,rfl,k,i⟩:=nN r;refine .inl (.inl ⟨a,j,rfl,k,λp f=>?_⟩);exact q _ _ (Same.upd f) (oT f (i.cut b c) (λ_ z=>.inr z) (.inl f)) λm z l=>by cases z;exact oT f (Reps.immB _ l (i.cut b c)) (λ_ z=>z) f
 case tuple xs=>
  change(if aT xs.length 0 b=0/\aT xs.length xs.length c=xs.length then Res.no else Res.ok (PyData.tuple (cut xs b c)))=_ at e;split at e
  .cases e
  .rename_i y;cases e;obtain⟨a,j,rfl,k,i⟩:=r;refine .inr ⟨a,j,rfl,k,by rw[i.length];exact y,λp f=>?_⟩;exact q _ _ (Same.upd f) (zu f (i.cut b c) λ_ z=>.inr z) λm z=>by cases z
 case str z=>
  change(if z.length<=bD then Res.ok (Z2 (qF z b c))else .no)=_ at e;split at e
  .rename_i hl;cases e;have A:=r.1;subst A;refine .inl (.inr ⟨z,rfl,lU hl,?_⟩);rw[OC];exact q _ H (Same.refl H) ⟨rfl,OA r.2 b c⟩ λm z=>by cases z
  .cases e
theorem uV:PO X Z8 (tDO X.K λ_=>.ok Z8):=PO.imp MR λa H Q ⟨b,F,z,so,e,q⟩=>by cases e;exact q H (Same.refl H)
theorem OE (c:PE X a (tD X.K fa)):PO X (Z9 a) (tDO X.K λb=>fa b>>=λx=>rS x.2):=
 PO.imp (MS c) λk H Q ⟨b,F,z,so,e,q⟩=>by
  obtain⟨x,f,e⟩:=Res.aA e;refine⟨b,F,x,so,f,λv h i j=>?_⟩;obtain⟨g,d⟩:=x;cases d<;>try (cases e;done)
  cases e;exact⟨_,j,q h i⟩
theorem d_sl {k:Option Expr}(m:PE X a (tD X.K fa))(n:PO X k (tDO X.K fl))(hh:PO X i (tDO X.K o)):
  PE X (.Subscript a (.Slice k i Z8 p2) pos) (tD X.K λb=>fa b>>=λx=>fl b>>=λl=>o b>>=λh=>oM x.2 l h>>=λd=>.ok (gN d (cQ [x]),d)):=
 PE.imp (MU OD m n hh) λD H Q ⟨b,F,z,so,e,q⟩=>by
  obtain⟨x,p,e⟩:=Res.aA e;obtain⟨l,r,e⟩:=Res.aA e;obtain⟨h,s,e⟩:=Res.aA e;obtain⟨d,t,e⟩:=Res.aA e;cases e;refine⟨b,F,x,so,p,λv E c u=>⟨b,F,l,so.same c,r,λG f=>⟨b,F,h,so.same (c.trans f),s,λI g=>⟨_,x.2,d,u.same (f.trans g) λ_ z=>z,t,λw y A j B=>q w y ((c.trans (f.trans g)).trans A) (Hq j (λa h=>?_) λC z i=>(B C z i).weak λ_ z=>nw.back (c.trans (f.trans g)) z)⟩⟩⟩⟩;rcases h with h|h
  .exact CJ so.aK (c.trans (f.trans g)) h
  .exact xg so.aK (by simp) h
theorem Reps.pick {K:Z5}(r:Reps K H B vs ds):∀is:List Nat,Reps K H B (is.filterMap (vs[·]?)) (is.filterMap (ds[·]?))
 | []=>rfl
 |i::is=>by
  rw[dg,dg];cases h:ds[i]? with
  |some d=>obtain⟨v,h1,h2⟩:=r.get h;rw[h1];exact Reps.cons h2 (Reps.pick r is)
  |none=>
   have:vs[i]?=none:=by rw[gu]at h ⊢;rw[r.length];exact h
   rw[this];exact Reps.pick r is
theorem Vals.pick (r:Vals vs us):∀is:List Nat,Vals (is.filterMap (vs[·]?)) (is.filterMap (us[·]?))
 | []=>.nil
 |i::is=>by
  rw[dg,dg];cases h:vs[i]? with
  |some d=>obtain⟨v,a,b⟩:=r.get h;rw[a];exact .cons b (Vals.pick r is)
  |none=>
   have:us[i]?=none:=by rw[gu]at h ⊢;rw[<-r.length];exact h
   rw[this];exact Vals.pick r is
theorem d_cB {id:String}(hc:CallR X (.builtin id) (zjk X.K m))(hm:X.mg x=Z8)(k:eh x=Z9 (.builtin id))(l:PA X (e::es) (tDA X.K fs))(b:((e::es).all fun e=>!isStar e)=Z7)(n:Gl X x)(hn:x≠"__name__")(c:VI x):
  PE X (.Call (.Name x p) (e::es) [] pos) (tD X.K λf=>fs f>>=λg=>m (g.map (·.2))>>=λd=>.ok (gJ d .al,d)):=
 PE.imp (zh hc hm k l b n hn c) λu H Q ⟨f,F,z,so,e,q⟩=>by obtain⟨g,o,e⟩:=Res.aA e;obtain⟨d,r,e⟩:=Res.aA e;cases e;exact⟨f,F,g,so,o,λv y j rs=>⟨_,_,d,rs.jE so.aK,r,λw s t i=>q w s (j.trans t) (sE i λa h=>h.elim (λz=>(nw.back j z).aK so.aK) λz=>z)⟩⟩
theorem bC.length {K:Z5}:∀{a:List (Key×V)} {es:cR},bC K H B a es->a.length=es.length
 |a,[],r=>by have e:a=[]:=r;subst e;rfl
 |a,(kd,d)::es,r=>by obtain⟨k,v,t,rfl,_,_,_,q⟩:=r;rw[bo,bo,q.length]
theorem Hy {K:Z5}(r:Reps K H B xs [d]):∃v,xs=[v]/\Rep K H B v d:=by obtain⟨v,t,e,h,q⟩:=r;subst e q;exact⟨v,rfl,h⟩
theorem CY {K:Z5}(r:Reps K H B xs [d,d']):∃v v',xs=[v,v']/\Rep K H B v d/\Rep K H B v' d':=by obtain⟨v,t,e,h,q⟩:=r;obtain⟨v',e2,h'⟩:=Hy q;subst e e2;exact⟨v,v',rfl,h,h'⟩
theorem OF:CallR X (.builtin "len") (zjk X.K (kU "len")):=by
 refine CallR.imp (NH.or Nm) λl H Q h=>?_;obtain⟨B,g,d,r,e,q⟩:=h;simp only[kU,if_true]at e;split at e
 .rename_i x;obtain⟨v,rfl,i⟩:=Hy r;clear r;have r:=i;cases x<;>try (cases e;done)
  case str z=>
   change(if z.length<=bD then Res.ok (Z0 z.length)else .no)=_ at e;split at e
   .rename_i j;cases e;have k:=r.1;subst k;exact .inl (.inl ⟨z,rfl,lU j,q _ H (Same.refl H) rfl⟩)
   .cases e
  case tuple g=>cases e;obtain⟨a,b,rfl,c,f⟩:=r;exact .inl (.inr ⟨a,b,rfl,.inr c,q _ H (Same.refl H) (f.length▸rfl)⟩)
  case list g=>cases e;obtain⟨a,b,rfl,c,f⟩:=nN r;exact .inl (.inr ⟨a,b,rfl,.inl c,q _ H (Same.refl H) (f.length▸rfl)⟩)
  case dict g=>cases e;obtain⟨a,b,rfl,c,_,f⟩:=r;exact .inr ⟨a,b,rfl,c,q _ H (Same.refl H) (f.length▸rfl)⟩
 .cases e
theorem OG (hc:X.calm=Z7):CallR X (.builtin "max") (zjk X.K (kU "max")):=by
 refine CallR.imp (MB hc) λc H Q h=>?_;obtain⟨B,f,d,r,e,q⟩:=h;simp only[kU,show("max":String)≠"len" by decide,if_true,if_false]at e;split at e
 .rename_i i j;cases e;obtain⟨v,g,rfl,a,b⟩:=CY r;subst a b;refine⟨i,j,rfl,q _ H (Same.refl H) ?_⟩
  congr 1
  split<;>omega
 .cases e
theorem zfd (I:Inv X j q H s)(c:RelV x u)(r:Rep X.K H B x d)(l:T∈tysB)
  (h:∀m,Q (.bool (jV (gZ d) T)) {s with toks:=m}):wpAny (model X.prog X.w) A (call (.builtin "isinstance") [u,.type T]) Q E s:=by
 have n:gZ d∈oG:=by cases d<;>simp[gZ,oG]
 have e:=NJ X.K _ n T l;cases d with
 |none=>have f:x=.bU:=r;subst f;exact z2c I c .bU e h
 |bool b=>have f:x=.bl b:=r;subst f;exact z2c I c (.bl b) e h
 |int b=>have f:x=.int b:=r;subst f;exact z2c I c (.int b) e h
 |str b=>have f:x=.str b:=r.1;subst f;exact z2c I c (.str b) e h
 |tuple p=>obtain⟨a,k,rfl,g,_⟩:=r;cases c;obtain⟨_,_,⟨o,i,hc,_⟩,_⟩:=I.tuple g;exact W.kia_one W.kitx_tuple I.eY ⟨o,i,hc⟩ e (λz=>nomatch z) h
 |list p=>obtain⟨a,k,rfl,g,_⟩:=nN r;cases c;obtain⟨_,_,⟨o,_,i,hc,_⟩,_⟩:=I.list g;exact W.kia_one W.kitx_list I.eY ⟨o,i,hc⟩ e (λz=>nomatch z) h
 |dict es=>obtain⟨a,k,rfl,g,_⟩:=r;exact z2c I c (.dK g) e h
def CZ (K:Z5):List V->Hp->VK->Prop:=λxs H Q=>∃B x d T,xs=[x,.ty T]/\Rep K H B x d/\T∈tysB/\Q (.bl (jV (gZ d) T)) H
theorem OH:CallR X (.builtin "isinstance") (CZ X.K):=by
 rintro a s h H i j Q I r ⟨B,x,d,T,rfl,b,c,q⟩
 obtain⟨u,e,rfl,f,g⟩:=vals2 r;obtain rfl:e=Value.type T:=g;exact zfd I f b c λk=>⟨.bl _,H,I.tok _,rfl,q⟩
theorem ztb (hm:X.mg "isinstance"=Z8)(hg:Gl X "isinstance")(hm2:X.mg x2=Z8)(hv2:eh x2=Z9 (.type T))(hg2:Gl X x2)(hn2:x2≠"__name__")(hd2:VI x2)(hT:T∈tysB)(hs:isStar y=Z6)(ha:PE X y (tD X.K fa)):
  PE X (.Call (.Name "isinstance" p) [y,.Name x2 p2] [] pos) (tD X.K λρ=>fa ρ>>=λx=>.ok (.fr,.bool ([T].any λT=>jV (gZ x.2) T))):=
 PE.imp (zh OH hm (by decide+kernel) (jR ha (jR (LS (v:=.ty T) hg2 hm2 hv2 rfl hn2 hd2) rK) hs) (by simp[hs];rfl) hg dc dc) λσ H Q ⟨ρ,F,z,so,e,q⟩=>by obtain⟨x,e1,e⟩:=Res.aA e;cases e;refine⟨ρ,F,x,so,e1,λv H1 s1 rv=>?_⟩;refine⟨_,v,x.2,T,rfl,rv,hT,q _ H1 s1 ?_⟩;show V.bl _=V.bl _;simp
end
section
variable {X:Cx}{pos:Pos}
end
def Kp (B:Ad->Prop)(H1 H2:Hp):Prop:=∀a o,H1 a=Z9 o->(B (Z9 a)\/Fix o)->H2 a=Z9 o
theorem Kp.of (s:Same b c):Kp B b c:=λa o e _=>s a o e
structure Walk (K:Z5)(J:It)(B:Ad->Prop)(H1:Hp)(xs:List D):Prop where
 len:xs.length<=bf
 go:∀H2,Kp B H1 H2->∀i,i<xs.length->J.go i H2
 stop:∀H2,Kp B H1 H2->J.stop xs.length H2
 jO:∀H2,Kp B H1 H2->∀i x H3,i<xs.length->J.jO i H2 x H3->Same H2 H3/\∃d,xs[i]?=Z9 d/\Rep K H3 B x d
def tDW (K:Z5)(f:Rho->Res (G×List D)):TI:=λσ H R=>∃ρ F w,StOk K F H σ ρ/\f ρ=.ok w/\∀J B H',Same H H'->(∀a,B a->BG F H w.1 a/\¬nw H' a)->Walk K J B H' w.2->R J H'
theorem _root_.L2.PI.imp (h:PI X c e t)(i:∀a H Q,d a H Q->t a H Q):PI X c e d:=λb s a H Q I q=>h b s a H Q I (i a H Q q)
section
variable {K:Z5}{H:Hp}{B:Ad->Prop}
theorem OI (h:(H a=Z9 (.lst c)/\B (Z9 a))\/(FL K H a c/\B Z8))(r:Reps K H B c g)(l:g.length<=bf):Walk K (GC K a) B H g:=by
 have f:∀e,Kp B H e->SqL K e a c:=λe k=>by
  rcases h with⟨h,b⟩|⟨⟨o,h⟩|h,_⟩
  .exact .inl (.inl (k a _ h (.inl b)))
  .exact .inl (.inr ⟨o,k a _ h (.inr True.intro)⟩)
  .exact .inr h
 refine⟨l,λe k i j=>?_,λe k=>⟨c,f e k,by rw[r.length];exact ah _⟩,λe k i x q j y=>?_⟩
 .have m:i<c.length:=r.length▸j;exact⟨c,c[i],f e k,by simp[m]⟩
 .obtain⟨rfl,y⟩:=y;obtain⟨d,n,p⟩:=r.rW (y c (f _ k));exact⟨Same.refl _,d,n,Rep.keep k (λ_ z=>z) d p⟩
theorem OJ (h:cL K H a c)(r:Reps K H B c f)(j:f.length<=bf):Walk K (GF K a) B H f:=by
 have e:∀b,Kp B H b->cL K b a c:=λb k=>h.keep k;refine⟨j,λb k i g=>?_,λb k=>⟨c,e b k,by rw[r.length];exact ah _⟩,λb k i x o g y=>?_⟩
 .have l:i<c.length:=r.length▸g;exact⟨c,c[i],e b k,by simp[l]⟩
 .obtain⟨rfl,y⟩:=y;obtain⟨d,m,n⟩:=r.rW (y c (e _ k));exact⟨Same.refl _,d,m,Rep.keep k (λ_ z=>z) d n⟩
theorem OK {b:Int}(e:n<=bf):Walk K (y8 b n) B H ((b9 n).map λ(i:Nat)=>.int (b+i)):=by
 have c:((b9 n).map λ(i:Nat)=>(Z0 (b+i):D)).length=n:=by simp
 refine⟨by rw[c];exact e,λd k i a=>?_,λd k=>?_,λd k i x f a y=>?_⟩
 .rw[c]at a;exact a
 .show n<=_;rw[c];simp_all
 .obtain⟨rfl,rfl⟩:=y;rw[c]at a;exact⟨Same.refl _,.int (b+i),by rw[a9,r6 a];rfl,rfl⟩
end
section
variable {X:Cx}{tg a b c e:Expr}{es:List Expr}{fa fb fc:Rho->Res GD}{pos:Pos}
theorem z3w (c:Inv X i u g f)(r:RelV y v)(s:Rep X.K g B y d)(e:z4z d=.ok x)
  (q:∀J,Walk X.K J B g x->R J g):wpAny (model X.prog X.w) X.A (vf v) (y7 X i u tg R) X.xe f:=by
 cases d<;>try (cases e;done)
 case list ds=>
  cases e;obtain⟨a,t,rfl,h,rs⟩:=s
  have j:SqL X.K g a t:=by
   rcases h with⟨h,_⟩|⟨h|h,_⟩
   .exact .inl (.inl h)
   .exact .inl (.inr h)
   .exact .inr h
  cases r;obtain⟨k,l,p,m⟩:=c.list j;refine ug p.isList (⟨f.heap.objs.size,[f.heap.objs.size],_,_,g,rfl,c.kept λb o e=>af _ e,Me a _,⟨_,b6 _ rfl,rfl,rfl⟩,λb n=>?_,q _ (OI h rs (rs.length▸m))⟩);have e:b=f.heap.objs.size:=by simpa using n
  subst e;exact c.nZ (ah _) (c.hok.fresh (ah _))
 case tuple ds=>
  cases e;obtain⟨a,t,rfl,j,rs⟩:=s;cases r;obtain⟨k,l,p,m⟩:=c.tuple j;refine wpAny_pyIter_tuple p (⟨f.heap.objs.size,[f.heap.objs.size],_,_,g,rfl,c.kept λb o e=>af _ e,Mf a _,⟨_,b6 _ rfl,rfl,rfl⟩,λb n=>?_,q _ (OJ j rs (rs.length▸m))⟩);have e:b=f.heap.objs.size:=by simpa using n
  subst e;exact c.nZ (ah _) (c.hok.fresh (ah _))
theorem dE (ha:PE X a (tD X.K fa)):PI X tg a (tDW X.K λρ=>fa ρ>>=λx=>z4z x.2>>=λxs=>.ok (x.1,xs)):=by
 rintro pins s σ H R I ⟨ρ,F,w,so,e,q⟩
 obtain⟨x,e1,e⟩:=Res.aA e;obtain⟨xs,e2,e⟩:=Res.aA e;cases e;refine aI (ha pins s σ H (λv H1=>Same H H1/\Rep X.K H1 (BG F H x.1) v x.2) I ⟨ρ,F,x,so,e1,λv H1 s1 rv=>⟨s1,rv⟩⟩) λv s1 zz=>?_;obtain⟨y,H1,I1,r1,OL,rv⟩:=zz;exact z3w I1 r1 (Rep.there _ rv) e2 λJ wk=>q J _ H1 OL (λ_ z=>z) wk
theorem OM {n:Int}(a:n<=bD)(b:-bD<=n):-(2 ^ 62)<=n/\n<2 ^ 62:=by unfold bD at *;omega
theorem dO.one {K:Z5}(r:dO K F H H' vs [x]):∃v,vs=[v]/\Rep K H' (BG F H x.1) v x.2:=by obtain⟨v,t,e,h,q⟩:=r;subst e q;exact⟨v,rfl,h⟩
theorem dO.two {K:Z5}(r:dO K F H H' vs [x,y]):∃v w,vs=[v,w]/\Rep K H' (BG F H x.1) v x.2/\Rep K H' (BG F H y.1) w y.2:=by obtain⟨v,t,e,h,q⟩:=r;obtain⟨w,a,b⟩:=q.one;subst e a;exact⟨v,w,rfl,h,b⟩
theorem ON (hm:X.mg "range"=Z8)(l:Gl X "range")(hs:isStar a=Z6)(m:PA X [a] (tDA X.K fs))(o:∀c b,fs c=.ok b->b.length=1):PI X y (.Call (.Name "range" p) [a] [] pos) (tDW X.K λc=>fs c>>=λb=>jW (b.map (·.2))>>=λj=>.ok (.fr,j)):=
 PI.imp (Ml l hm m (jQ hs)) λA H R ⟨c,F,w,so,e,q⟩=>by
  obtain⟨b,k,e⟩:=Res.aA e;obtain⟨j,f,e⟩:=Res.aA e;cases e;refine⟨c,F,b,so,k,λB r s rs=>?_⟩
  match b,(o c b k)with
  | [(g,d)],t=>
   obtain⟨v,rfl,u⟩:=rs.one;cases d<;>try (cases f;done)
   rename_i n;subst u;change(if n<=bD/\-bD<=n then Res.ok ((b9 n.toNat).map λ(i:Nat)=>Z0 i)else .no)=_ at f;split at f
   case isFalse=>cases f
   rename_i hn;cases f;have h:=OM hn.1 hn.2;refine⟨n,rfl,h.1,h.2,q _ (λ_=>False) r s (λ_ z=>z.elim) ?_⟩;have x:((b9 n.toNat).map λ(i:Nat)=>(Z0 i:D))=(b9 n.toNat).map λi=>.int (0+i):=by apply se;intro i _;rw[Int.zero_add]
   rw[x];exact OK (lU (by unfold bD at *;omega))
def Fm.drop (F:Fm)(i:Nat):Fm:={F with O:=λa=>if F.O a=Z9 i then Z8 else F.O a}
theorem Fm.bO {F:Fm}{a:Addr}(h:F.O a=Z8):(F.drop i).O a=none:=by show(if F.O a=Z9 i then Z8 else F.O a)=Z8;rw[h];rfl
theorem Bin.drop {a:Ad}(h:Bin F a):Bin (F.drop i) a:=by
 cases a with
 |none=>exact h
 |some a=>exact⟨Fm.bO h.1,h.2⟩
theorem Slot.drop {K:Z5}(a:j≠i)(h:Slot K F H j g v d):Slot K (F.drop i) H j g v d:=by
 cases g with
 |fr=>
  obtain⟨p,e,o,h⟩:=h;refine⟨p,e,?_,?_⟩
  .show(if F.O p=Z9 i then Z8 else F.O p)=Z9 j;rw[o,vm (λz=>a (vn z))]
  .rcases h with⟨c,f,k,l,r⟩|⟨c,f,k,l,r⟩
   .exact .inl ⟨c,f,k,l,r.weak λ_ b=>b.drop⟩
   .exact .inr ⟨c,f,k,l,bC.same (λ_ _ e=>e) (λ_ b=>b.drop) r⟩
 |od=>exact h
 |al=>exact h
 |nu=>exact Rep.weak (λ_ b=>b.drop) h
def BI (F:Fm):G->Ad->Prop
 |.od=>fT F
 |.fr=>bZ F
 |.al=>bZ F
 |.nu=>bZ F
theorem BI.of {a:Ad}(b:∀a,H a=Z8->F.V a)(h:BG F H g a):BI F g a:=by
 cases g with
 |fr=>exact nw.aK b h
 |od=>exact h
 |al=>exact h
 |nu=>exact h.elim (nw.aK b) Bin.aK
theorem StOk.lV {K:Z5}(so:StOk K F H f h)(r:Rep K H (BI F x.1) v x.2):StOk K (F.drop i) H (f.set i (Z9 v)) (h.set i (Z9 (uS x))) where
 ext:=so.ext
 aK:=so.aK
 own:=λa j e=>by
  have k:F.O a=Z9 j:=by
   have:(if F.O a=Z9 i then Z8 else F.O a)=Z9 j:=e;split at this
   .cases this
   .exact this
  exact so.own a j k
 len:=by rw[cg,cg];exact so.len
 sl:=λj g d e=>by
  by_cases c:i=j
  .subst c;rw[f8]at e;simp only[if_true]at e;split at e
   .rename_i l;have b:uS x=(g,d):=by simpa using e
    refine⟨v,?_,?_⟩
    .rw[f8];simp[so.len,l]
    .obtain⟨m,dx⟩:=x;cases m with
     |fr=>cases b;exact r
     |od=>cases b;exact r
     |al=>cases b;exact r
     |nu=>cases b;exact r
   .cases e
  .rw[bh c]at e ⊢;obtain⟨u,n,o⟩:=so.sl j g d e;exact⟨u,n,o.drop λz=>c z.symm⟩
structure Keeps (F F':Fm)(is:List Nat)(σ σ':L2.St):Prop where
 h0:F'.H0=F.H0
 v:F'.V=F.V
 z:F'.z=F.z
 o:∀a,F.O a=Z8->F'.O a=Z8
 len:σ'.length=σ.length
 rest:∀j,j∉is->σ'[j]?=σ[j]?
theorem Keeps.refl:Keeps F F is σ σ:=⟨rfl,rfl,rfl,λ_ h=>h,rfl,λ_ _=>rfl⟩
theorem Keeps.set {v:Option V}(h:i∈is):Keeps F (F.drop i) is σ (σ.set i v):=⟨rfl,rfl,rfl,λ_ h=>Fm.bO h,cg,λj a=>bh λz=>a (by rw[<-z];exact h)⟩
theorem Keeps.trans (a:Keeps F F' is σ σ')(b:Keeps F' OO is σ' C0):Keeps F OO is σ C0:=⟨b.h0.trans a.h0,b.v.trans a.v,b.z.trans a.z,λx h=>b.o x (a.o x h),b.len.trans a.len,λj hj=>(b.rest j hj).trans (a.rest j hj)⟩
def tDG (K:Z5)(t:Tg):TG:=λv σ H Q=>∃ρ F x aL,StOk K F H σ ρ/\Rep K H (BI F x.1) v x.2/\cX t x ρ=.ok aL/\∀σ' F',StOk K F' H σ' aL->Keeps F F' (tgIx t) σ σ'->Q σ' H
theorem _root_.L2.PG.imp (h:PG X e t)(i:∀v σ H Q,t' v σ H Q->t v σ H Q):PG X e t':=λpins s σ H v u Q I r q=>h pins s σ H v u Q I r (i v σ H Q q)
theorem _root_.L2.PGs.imp {e:List Expr}(h:PGs X e t)(i:∀v σ H Q,t' v σ H Q->t v σ H Q):PGs X e t':=λpins s σ H v u Q I r q=>h pins s σ H v u Q I r (i v σ H Q q)
theorem OP (hN:X.N.Nodup)(a:X.N[i]?=Z9 x)(b:Loc X.env.scope x)(hf:X.fn x=Z7\/X.env.scope.names.lookup x=Z9 .local):PG X (.Name x pos) (tDG X.K (.nm i)):=PG.imp (GB hN a b hf) λv d H Q ⟨f,F,x,c,so,r,e,q⟩=>by cases e;exact q _ _ (so.lV r) (Keeps.set (by simp[tgIx]))
def lW (K:Z5)(all is:List Nat):uJ:=λvs σ H Q=>∃ρ F g ds aL,(∀i∈is,i∈all)/\StOk K F H σ ρ/\Reps K H (BI F g) vs ds/\oK ρ is ds g=Z9 aL/\∀σ' F',StOk K F' H σ' aL->Keeps F F' all σ σ'->Q σ' H
theorem OQ:PGs X [] (lW X.K all []):=
 PGs.imp Mb λf b H Q ⟨h,F,g,a,c,_,so,r,e,q⟩=>by
  cases a with
  |nil=>cases e;exact⟨r,q b F so Keeps.refl⟩
  |cons d a=>cases e
theorem OR (hN:X.N.Nodup)(c:X.N[i]?=Z9 x)(u:Loc X.env.scope x)(hf:X.fn x=Z7\/X.env.scope.names.lookup x=Z9 .local)(h:PGs X es (lW X.K all is)):PGs X (.Name x p::es) (lW X.K all (i::is)):=
 PGs.imp (zh3 (GB hN c u hf) h (by rfl)) λB C H Q ⟨w,F,g,l,m,f,so,r,e,q⟩=>by
  cases l with
  |nil=>cases e
  |cons d l=>
   obtain⟨v,t,rfl,s,y⟩:=r;refine⟨v,t,rfl,w.set i (Z9 (uS (gJ d g,d))),F.drop i,g,l,m,λj z=>f j (ba _ z),?_,?_,e,λn A o k=>q n A o ((Keeps.set (f i a8)).trans k)⟩
   .refine so.lV ?_;unfold gJ;by_cases c:imm d=Z7
    .rw[vh c];exact Rep.immB d c s
    .rw[vm c];exact s
   .exact y.weak λa b=>by cases g<;>exact b
theorem OS (x:X.calm=Z7)(h:PGs X es (lW X.K is is))(hn:(io es X.env).length=n)(p:(io es X.env).findIdx? (·.1)=Z8)(y:is.length=n):PG X (.Tuple es k pos) (tDG X.K (.tp is)):=
 λl s z H v u Q I A ⟨f,F,⟨g,d⟩,j,so,r,e,q⟩=>by
  have m:∀is b f c,oK f is b g=Z9 c->is.length=b.length:=by
   intro is
   induction is with
   |nil=>intro b f c h;cases b with
    |nil=>rfl
    |cons _ _=>cases h
   |cons i is B=>intro b f c h;cases b with
    |nil=>cases h
    |cons d b=>rw[bo,bo,B b _ _ h]
  have t:∀b,Res.eK (oK f is b g)=.ok j->oK f is b g=Z9 j:=λb e=>by
   cases o:oK f is b g with
   |none=>rw[o]at e;cases e
   |some c=>rw[o]at e;rw[Res.ok.inj e]
  cases d<;>try (cases e;done)
  case tuple b=>have o:=t b e;obtain⟨a,C,rfl,D,w⟩:=r;exact zp1 x h hn p l s z H _ u Q I A ⟨a,C,rfl,D,by rw[w.length,<-m _ _ _ _ o];exact y,f,F,g,b,j,λ_ h=>h,so,w,o,q⟩
theorem StOk.blk {K:Z5}(so:StOk K F H s k)(m:Nat)(js:List Nat)(l:Addr)(u:List V)(c:H l=Z8):
  StOk K {F with V:=λa=>F.V a/\a≠l,O:=λ_=>Z8} (upd H l (.lst u)) (fI m js s) (b8 m Z8++js.map λj=>iR (k.getD j Z8)) where
 ext:=λa o e=>by have:=so.ext a o e;rw[aO (eC this c)];exact this
 aK:=λa e=>by
  by_cases h:a=l
  .subst h;rw[cK]at e;cases e
  .rw[aO h]at e;exact⟨so.aK a e,h⟩
 own:=λa i e=>by cases e
 len:=by unfold fI;simp
 sl:=λi g d e=>by
  have n:∀a,bZ F a/\¬nw H a->bZ {F with V:=λa=>F.V a/\a≠l,O:=λ_=>Z8} a:=λa h=>by
   cases a with
   |none=>exact h.1
   |some a=>exact⟨h.1,λz=>h.2 (z▸c)⟩
  have p:∀a,fT F a/\¬nw H a->fT {F with V:=λa=>F.V a/\a≠l,O:=λ_=>Z8} a:=λa h=>by
   cases a with
   |none=>exact h.1
   |some a=>exact⟨h.1.1,h.1.2,λz=>h.2 (z▸c)⟩
  rw[md]at e;split at e
  .rw[gj]at e;split at e<;>cases e
  .rename_i w;rw[ez]at w e;rw[a9]at e;cases q:js[i-m]? with
   |none=>rw[q]at e;cases e
   |some j=>
    rw[q]at e;have b:iR (k.getD j Z8)=Z9 (g,d):=vn e;cases r:k[j]? with
    |none=>rw[am,r]at b;cases b
    |some o=>
     rw[am,r]at b;cases o with
     |none=>cases b
     |some gd=>
      obtain⟨t,d0⟩:=gd;obtain⟨v,x,f⟩:=so.sl j t d0 r;refine⟨v,?_,?_⟩
      .unfold fI;rw[dz (by grind),ez,a9,q];show Z9 (s.getD j Z8)=_;rw[am,x];rfl
      .cases t with
       |fr=>cases b;exact Rep.same (Same.upd c) n (Rep.there _ (f.rep so.hJ))
       |od=>cases b;exact Rep.same (Same.upd c) p (Rep.there _ f)
       |al=>cases b;exact Rep.same (Same.upd c) n (Rep.there _ f)
       |nu=>cases b;exact Rep.same (Same.upd c) n (Rep.there _ (f.rep so.hJ))
theorem C1:∀l m r,jX f (l++m)=.ok r->∃a b,jX f l=.ok a/\jX f m=.ok b/\r=a++b
 | [],m,r,h=>⟨[],r,rfl,h,rfl⟩
 |x::l,m,r,h=>by
  obtain⟨o,c,h⟩:=Res.aA h;obtain⟨d,e,h⟩:=Res.aA h;obtain⟨a,b,g,i,rfl⟩:=C1 l m d e;cases h;refine⟨oc o a,b,?_,i,?_⟩
  .show(f x>>=λo=>jX f l>>=λr=>Res.ok (oc o r))=_;rw[c,Res.aB,g,Res.aB]
  .cases o<;>rfl
theorem dO.snoc {K:Z5}:∀{vs:List V} {xs:List GD} {v:V} {x:GD},dO K F H H' vs xs->Rep K H' (BG F H x.1) v x.2->dO K F H H' (vs++[v]) (xs++[x])
 |vs,[],v,x,r,h=>by have e:vs=[]:=r;subst e;exact⟨v,[],rfl,h,rfl⟩
 |vs,y::ys,v,x,r,h=>by obtain⟨u,t,rfl,h1,q⟩:=r;exact⟨u,t++[v],rfl,h1,q.snoc h⟩
theorem dO.keep {K:Z5}(d:∀a o g,f a=Z9 o->(BG F H g (Z9 a)\/Fix o)->h a=Z9 o):∀{c:List V} {xs:List GD},dO K F H f c xs->dO K F H h c xs
 |c,[],r=>r
 |c,y::ys,r=>by obtain⟨u,t,e,i,q⟩:=r;exact⟨u,t,e,Rep.keep (λa o e b=>d a o y.1 e b) (λ_ z=>z) _ i,q.keep d⟩
theorem dO.len {K:Z5}:∀{a:List V} {xs:List GD},dO K F H H' a xs->a.length=xs.length
 |a,[],r=>by have e:a=[]:=r;subst e;rfl
 |a,y::b,r=>by obtain⟨u,t,rfl,c,q⟩:=r;rw[bo,bo,q.len]
theorem Hz:∀l r,jX f l=.ok r->r.length<=l.length
 | [],r,h=>by cases h;simp_all
 |x::l,r,h=>by
  obtain⟨o,c,h⟩:=Res.aA h;obtain⟨a,b,h⟩:=Res.aA h;have:=Hz l a b;cases h;cases o with
  |none=>exact cc this (by simp)
  |some y=>simp only[oc,bo];omega
def zfi (nt:Nat)(js:List Nat)(t:Tg)(fw:Rho->Res (G×List D))(fc:Rho->Res Bool)(fe:Rho->Res GD):Rho->Res GD:=λρ=>fw ρ>>=λw=>jX (λx=>cX t (gJ x w.1,x) (b8 nt Z8++js.map λj=>iR (ρ.getD j Z8))>>=λρ1=>fc ρ1>>=λk=>if k then fe ρ1>>=λy=>.ok (Z9 y)else .ok Z8) w.2>>=λys=>.ok (qE ys,.list (ys.map (·.2)))
def OT (g:TG)(tc:TT)(te:TE)(em:L2.St->L2.St)(σ:L2.St)(Q:VK):It->Hp->Prop:=λJ H1=>∀l,H1 l=Z8->∃P:Nat->Nat->List V->Hp->Prop,(∃m,P 0 m [] (upd H1 l (.lst [])))/\∀i m acc H2,P i m acc H2->(J.stop i H2/\Q (.ref l) H2)\/(J.go i H2/\acc.length<bf/\∃N:List V->Hp->Prop,(∀lM H',N lM H'->∃m',m'<m/\P (i+1) m' lM H')/\∀x H3,J.jO i H2 x H3->g x (em σ) H3 λjC H4=>iO (em σ) jC/\tc jC H4 λb H5=>if b=Z7 then te jC H5 λy H6=>H6 l=Z9 (.lst acc)/\N (acc++[y]) (upd H6 l (.lst (acc++[y])))else N acc H5)
abbrev CI (K:Z5)(F:Fm)(f:D->Res (Option GD))(ds:List D)(H1:Hp)(l:Nat)(i:Nat)(acc:List V)(H2:Hp):Prop:=H2 l=Z9 (.lst acc)/\(∀a o,H1 a=Z9 o->H2 a=Z9 o)/\∃ys,jX f (ds.take i)=.ok ys/\dO K F (upd H1 l (.lst [])) H2 acc ys
theorem za9 {fc:Rho->Res Bool}(ht0:∀i∈tgIx t,i<nt)(so:StOk X.K F H σ ρ)(e:zfi nt js t fw fc fe ρ=.ok z)(q:∀v D,Same H D->Rep X.K D (BG F H z.1) v z.2->Q v D):
  ∃w,fw ρ=.ok w/\∀J B D,Same H D->(∀a,B a->BG F H w.1 a/\¬nw D a)->Walk X.K J B D w.2->OT (tDG X.K t) (eA X.K fc) (tD X.K fe) (fI nt js) σ Q J D:=by
 obtain⟨w,W,e⟩:=Res.aA e;obtain⟨Y,e2,e⟩:=Res.aA e;cases e;refine⟨w,W,λJ B s s1 hB wk l I=>?_⟩;generalize hr:(b8 nt Z8++js.map λj=>iR (ρ.getD j Z8))=dQ at e2;generalize hf:(λx=>cX t (gJ x w.1,x) dQ>>=λn=>fc n>>=λk=>if k then fe n>>=λy=>Res.ok (Z9 y)else .ok Z8)=f at e2;have nO:=so.same s1;have C2:∀i,∃S,jX f (w.2.take i)=.ok S:=λi=>by rw[<-d6 i w.2]at e2;obtain⟨r1,r2,T,_,_⟩:=C1 _ _ _ e2;exact⟨r1,T⟩
 let L:Fm:={F with V:=λa=>F.V a/\a≠l,O:=λ_=>Z8}
 refine zv0 (CI X.K L f w.2 s l) wk.len ?_ ?_ ?_ ?_ ?_
 .exact⟨cK,λa o e=>by rw[aO (eC e I)];exact e,[],rfl,rfl⟩
 .rintro i p U ⟨_,_,S,M,rs⟩
  rw[rs.len];have:=Hz _ _ M;rw[df]at this;omega
 .rintro p U ⟨T,E,S,M,rs⟩
  rw[jo]at M;rw[e2]at M;cases M;refine⟨wk.stop U (λa o e _=>E a o e),q _ _ (λa o e=>E a o (s1 a o e)) ?_⟩;have HA:=s1.none I;refine⟨l,p,rfl,.inl ⟨T,?_⟩,rs.lT λx hx a hb=>?_⟩
  .show BG F H (qE Y) (Z9 l);unfold qE;split
   .exact HA
   .exact so.aK l HA
  .unfold qE;by_cases ea:(Y.all λx=>x.1==.fr)=Z7
   .rw[vh ea];have zA:x.1=.fr:=by simpa using bb.mp ea x hx
    rw[zA]at hb;cases a with
    |none=>exact hb
    |some a=>
     have uW:upd s l (.lst []) a=none:=hb
     have:s a=none:=by
      by_cases c:a=l
      .subst c;exact I
      .rw[aO c]at uW;exact uW
     exact s1.none this
   .rw[vm ea];have:bZ L a:=BG.aK (λa e=>((nO.blk nt js l [] I).aK a e)) hb;cases a with
    |none=>exact this
    |some a=>exact this.1
 .rintro i p U N ⟨_,E,_⟩
  exact wk.go U (λa o e _=>E a o e) i N
 .rintro i p U x H3 N ⟨T,E,S,M,rs⟩ y
  obtain⟨s3,d,hd,rx⟩:=wk.jO U (λa o e _=>E a o e) i x H3 N y;obtain⟨qI,A⟩:=C2 (i+1);have P:w.2.take (i+1)=w.2.take i++[d]:=by rw[oh,hd];rfl
  rw[P]at A;obtain⟨r1,r2,g1,g2,g3⟩:=C1 _ _ _ A;rw[M]at g1;cases g1;obtain⟨o,C,g2⟩:=Res.aA g2;obtain⟨r3,g5,g2⟩:=Res.aA g2;cases g5;rw[<-hf]at C;obtain⟨n,k1,C⟩:=Res.aA C;obtain⟨k,k2,C⟩:=Res.aA C
  have sb:StOk X.K L H3 (fI nt js σ) dQ:=by
   rw[<-hr];refine(nO.blk nt js l p I).same λa o e=>s3 a o ?_;by_cases c:a=l
   .subst c;rw[cK]at e;rw[T];exact e
   .rw[aO c]at e;exact E a o e
  have xn:Rep X.K H3 (BI L (gJ d w.1)) x d:=by
   unfold gJ;by_cases N:imm d=Z7
   .rw[vh N];exact Rep.immB d N rx
   .rw[vm N];refine rx.weak λa b=>?_;obtain⟨r,b2⟩:=hB a b;have G:=BI.of so.aK r;cases a with
    |none=>cases hw:w.1<;>rw[hw]at G<;>exact G
    |some a=>
     have c:a≠l:=λz=>b2 (by rw[z];exact I);cases hw:w.1<;>rw[hw]at G
     .exact⟨G,c⟩
     .exact⟨G.1,G.2,c⟩
     .exact⟨G,c⟩
     .exact⟨G,c⟩
  refine⟨_,L,(gJ d w.1,d),n,sb,xn,k1,λjC R qJ h=>⟨⟨h.len.symm,λj v hj=>?_⟩,n,R,k,qJ,k2,λH5 s5=>?_⟩⟩
  .by_cases HB:j∈tgIx t
   .have :=ht0 j HB;unfold fI at hj;rw[fm (ez▸this),gj,vh this]at hj;cases hj
   .rw[h.rest j HB];exact hj
  .have h5:∀a o,s a=Z9 o->H5 a=Z9 o:=λa o e=>s5 a o (s3 a o (E a o e));have u:=s5 _ _ (s3 _ _ T);have HC:=rs.keep λa o g e _=>s5 a o (s3 a o e);cases k with
   |false=>cases C;cases g2;refine fQ ⟨u,h5,S,?_,HC⟩;rw[P,A,g3];simp[oc]
   |true=>
    obtain⟨yv,k3,C⟩:=Res.aA C;cases C;cases g2;refine fR ⟨n,R,yv,qJ.same s5,k3,λv H6 s6 rv=>⟨s6 _ _ u,cK,λa o e=>?_,S++[yv],?_,?_⟩⟩
    .rw[aO (eC e I)];exact s6 a o (h5 a o e)
    .rw[P,A,g3];rfl
    .have OU:=s6 _ _ u
     have hk:∀a o g,H6 a=Z9 o->(BG L (upd s l (.lst [])) g (Z9 a)\/Fix o)->upd H6 l (.lst (p++[v])) a=Z9 o:=λa o g e b=>by
      have c:a≠l:=by
       intro z;subst z;rcases b with b|b
       .cases g with
        |fr=>have m:upd s a (.lst []) a=none:=b;rw[cK]at m;cases m
        |od=>exact b.2.2 rfl
        |al=>exact b.2 rfl
        |nu=>
         rcases b with b|b
         .have m:upd s a (.lst []) a=none:=b;rw[cK]at m;cases m
         .exact b.2.2.2 rfl
       .rw[OU]at e;cases e;exact b
      rw[aO c];exact e
     have OV:Rep X.K H6 (BG L (upd s l (.lst [])) yv.1) v yv.2:=by
      refine rv.weak λa b=>?_;cases hg:yv.1 with
      |fr=>
       rw[hg]at b;cases a with
       |none=>exact b
       |some a=>
        have m:H5 a=none:=b;show upd s l (.lst []) a=Z8;rw[aO (λz=>by rw[z,u]at m;cases m)];cases W:s a with
        |none=>rfl
        |some o=>rw[h5 a o W]at m;cases m
      |nu=>
       rw[hg]at b;cases a with
       |none=>exact b
       |some a=>
        rcases b with b|b
        .have m:H5 a=none:=b;refine .inl ?_;show upd s l (.lst []) a=Z8;rw[aO (λz=>by rw[z,u]at m;cases m)];cases W:s a with
         |none=>rfl
         |some o=>rw[h5 a o W]at m;cases m
        .refine .inr ⟨rfl,?_,?_⟩
         .have:=b.2.1;rw[h.h0]at this;exact this
         .have:=b.2.2;rw[h.v]at this;exact this
      |od=>
       rw[hg]at b;cases a with
       |none=>have r:R.z:=b;rw[h.z]at r;exact r
       |some a=>have r:R.H0 a≠Z8/\R.V a:=b;rw[h.h0,h.v]at r;exact r
      |al=>
       rw[hg]at b;cases a with
       |none=>have r:R.z:=b;rw[h.z]at r;exact r
       |some a=>have r:R.V a:=b;rw[h.v]at r;exact r
     exact((HC.keep λa o g e _=>s6 a o e).snoc OV).keep hk
theorem OW {fc:Rho->Res Bool}(ht0:∀i∈tgIx t,i<nt):∀σ H Q,tD X.K (zfi nt js t fw fc fe) σ H Q->zg (tDW X.K fw) (tDG X.K t) (eA X.K fc) (tD X.K fe) (fI nt js) σ H Q:=by
 rintro σ H Q ⟨ρ,F,z,so,e,q⟩
 obtain⟨w,e1,h⟩:=za9 ht0 so e q;exact⟨ρ,F,w,so,e1,h⟩
theorem zia {fc:Rho->Res Bool}(hc:X.calm=Z7)(Bk:BlkScope X scope N' nt js)(ht0:∀i∈tgIx t,i<nt)(hi:PI X tg iter (tDW X.K fw))
  (hg:∀C fp s H,PG (blk X scope N' C fp s H) tg (tDG X.K t)) (ht:∀C fp s H,qC (blk X scope N' C fp s H) ifs (eA X.K fc)) (he:∀C fp s H,PE (blk X scope N' C fp s H) elt (tD X.K fe)) (hs:∀x,gm iter X.env x=pure x):
  PE X (.ListComp elt [⟨tg,iter,ifs,0⟩] scope pos) (tD X.K (zfi nt js t fw fc fe))/\∀σ H Q,tD X.K (zfi nt js t fw fc fe) σ H Q->zg (tDW X.K fw) (tDG X.K t) (eA X.K fc) (tD X.K fe) (fI nt js) σ H Q:=by
 have main:=OW (X:=X) (js:=js) (fw:=fw) (fc:=fc) (fe:=fe) ht0;exact⟨PE.imp (zeq hc Bk hi hg ht he hs) main,main⟩
end
def BC (H:Hp)(A:Ad->Prop):G->Ad->Prop
 |.fr=>nw H
 |.od=>λa=>nw H a\/A a
 |.al=>λa=>nw H a\/A a
 |.nu=>nw H
def spD (K:Z5)(n:Nat)(m:Fn):Sp:=λvs H Q _=>∃A ds x,vs.length=n/\Reps K H A vs ds/\m ds=.ok x/\∀v H',Same H H'->Rep K H' (BC H A x.1) v x.2->Q v H'
section
variable {X:Cx}{tg a b c e o:Expr}{es:List Expr}{fa fb fc:Rho->Res GD}{pos:Pos}
theorem zpa (o:Cal X.prog X.w X.K X.mg X.base k x ps (spD X.K n m))(hr:Room s X.A)(t:k<=s)(u:PA X (e::es) (tDA X.K fs))(g:((e::es).all fun e=> !isStar e)=Z7)(c:Gl X x)(i:VI x)
  (y:∀d b,fs d=.ok b->b.length=n):PE X (.Call (.Name x p) (e::es) [] pos) (tD X.K λd=>fs d>>=λb=>m (b.map (·.2))>>=λr=>.ok (gJ r.2 (jD r.1),r.2)):=
 PE.imp (zh2 o hr u g t c i) λI H Q ⟨d,F,z,so,e,q⟩=>by
  obtain⟨b,j,e⟩:=Res.aA e;obtain⟨r,B,e⟩:=Res.aA e;cases e;refine⟨d,F,b,so,j,λC l f rs=>?_⟩;show spD X.K n m (C++[]) l Q E0;rw[e9];refine⟨_,_,r,by rw[rs.len];exact y d b j,rs.jE so.aK,B,λv D E G=>q v D (f.trans E) (sE G λa h=>?_)⟩;have al:(nw l a\/bZ F a)->bZ F a:=λh=>h.elim (λh=>(nw.back f h).aK so.aK) λh=>h;cases c:r.1 with
  |fr=>rw[c]at h;exact nw.back f h
  |od=>rw[c]at h;exact al h
  |al=>rw[c]at h;exact al h
  |nu=>rw[c]at h;exact nw.back f h
def rMt (K:Z5)(m:String):V->List V->Hp->VK->Prop:=λx xs H Q=>∃B B' dx ds d,Rep K H B x dx/\Reps K H B' xs ds/\mtD m dx ds=.ok d/\∀w H',Same H H'->Rep K H' (λa=>nw H a\/B a\/B' a) w d->Q w H'
theorem ze (h:Cr o=Z7):ma o n env w=w:=by
 unfold ma;split
 .rename_i id p a;cases h
 .rfl
theorem HD:∀{es:List Expr},(es.all λe=> !isStar e)=Z7->(kj pos (eo es env)).all (λx=> !x.1)=Z7
 | [],_=>rfl
 |e::es,h=>by have h:=bj.mp (fg▸h);rw[jQ (by simpa using h.1)];show(Z7&&(kj pos (eo es env)).all (λx=>!x.1))=Z7;rw[HD h.2];rfl
theorem zb9 (h:(es.all fun e=> !isStar e)=Z7)(a:es.length<20):((kj cpos (eo es env)).all (fun x=> !x.1)&&(t5 cpos (og [] env)).all (fun x=>x.1.isSome)
  &&decide (es.length+([]:List m6).length+(if([]:List m6).isEmpty then 0 else 1)<30))=true:=by
 rw[HD h];show(Z7&&Z7&&decide (es.length+0+0<30))=Z7;rw[vq (by omega)];rfl
theorem d_mt {id:String}(pa:PlainAttrs T)(slot:PySem.Slot T n id)(l:uq (.builtin id)=pure (.type "method_descriptor"))(hm:MtR X id (rMt X.K m))(A:∀H B x dx C d,Rep X.K H B x dx->mtD m dx C=.ok d->tyV X.K T x H)
  (D:PE X o (tD X.K fa)) (E:PA X (e::es) (tDA X.K fs)) (p:Cr o=Z7) (f:((e::es).all λe=>!isStar e)=Z7) (G:(e::es).length<20) (c:(g.endLine==i.line)=Z7):
  PE X (.Call (.Attribute o n g) (e::es) [] i) (tD X.K λj=>fa j>>=λx=>fs j>>=λr=>mtD m x.2 (r.map (·.2))>>=λd=>.ok (gJ d .al,d)):=by
 have b:=f;rw[fg,a6]at b;refine PE.imp (zki pa slot l hm D E (ze p) (zb9 f G) c (jQ (by simpa using b.1)) (oE b.2)) λP H Q I=>?_;obtain⟨j,F,z,so,e,q⟩:=I;obtain⟨x,J,e⟩:=Res.aA e;obtain⟨r,L,e⟩:=Res.aA e;obtain⟨d,u,e⟩:=Res.aA e;cases e;refine⟨j,F,x,so,J,λv M k y=>⟨A M _ v x.2 _ d y u,j,F,r,so.same k,L,λR S s rs=>?_⟩⟩;refine⟨_,_,x.2,_,d,y.same s λ_ z=>z,rs.jE (so.same k).aK,u,λw N O t=>q w N ((k.trans s).trans O) (sE t λa h=>?_)⟩;rcases h with h|h|h
 .exact(nw.back (k.trans s) h).aK so.aK
 .exact h.aK so.aK
 .exact h
theorem OX (hu:X.A.units+64<cLine):MtR X "dict.get" (rMt X.K "get"):=by
 rintro f s y H x C v D Q I h rs ⟨B,E,dx,F,d,i,j,e,q⟩
 simp only[mtD,if_true]at e;split at e
 .rename_i es k d0;split at e
  case isFalse=>cases e
  rename_i l;cases e;obtain⟨G,J,rfl,m,n⟩:=CY j;obtain⟨kk,rfl,rfl,_⟩:=xl l m;obtain⟨a,kvs,rfl,g1,_,g2⟩:=i;cases h;obtain⟨L,M,rfl,o,p⟩:=vals2 rs;have b:=g2.val kk;refine zp9 (by omega) I (DGet.k g1) o p λN O r c=>⟨_,H,r,c,q _ H (Same.refl H) ?_⟩;cases g:gK es (kD kk)with
  |none=>rw[g]at b;rw[show cV kvs kk=Z8 from b];exact n.weak λ_ z=>.inr (.inr z)
  |some P=>rw[g]at b;obtain⟨w,t,u⟩:=b;rw[t];exact u.weak λ_ z=>.inr (.inl z)
 .cases e
theorem OY (r:Rep X.K H B x dx)(e:mtD "get" dx ds=.ok d):tyV X.K "dict" x H:=by
 simp only[mtD,if_true]at e;split at e
 .obtain⟨a,kvs,rfl,g1,_,_⟩:=r;exact .inr (.inr ⟨rfl,kvs,g1⟩)
 .cases e
end
theorem HE:∀{l:List Nat},c∉l->l.takeWhile (· != c)=l/\l.dropWhile (· != c)=[]
 | [],_=>⟨rfl,rfl⟩
 |a::l,h=>by
  rw[ay,not_or]at h;have b:(a != c)=true:=by have:a≠c:=λe=>h.1 e.symm;simpa using this
  obtain⟨d,f⟩:=HE h.2;exact⟨by rw[List.takeWhile_cons,vh b,d],by rw[List.dropWhile_cons,vh b,f]⟩
theorem HF {c:Nat}{l:List Nat}(h:∀i:Nat,l[i]?≠Z9 c):l.takeWhile (· != c)=l/\(l.dropWhile (· != c)).drop 1=[]/\l.contains c=Z6/\l.findIdx? (· ==c)=none:=by
 have hm:c∉l:=λz=>by obtain⟨i,hi⟩:=List.getElem?_of_mem z;exact h i hi
 obtain⟨i1,i2⟩:=HE hm;refine⟨i1,by rw[i2];rfl,by simpa using hm,n9.mpr λa ha=>?_⟩;have:a≠c:=λe=>hm (e▸ha);simpa using this
def cH (F:Fm)(H:Hp)(F':Fm)(H':Hp):Prop:=∀a o,H a=Z9 o->F.O a=Z8->H' a=Z9 o/\F'.O a=Z8
theorem cH.refl:cH F H F H:=λ_ _ e o=>⟨e,o⟩
theorem cH.trans (a:cH F H f g)(b:cH f g c d):cH F H c d:=λx o e n=>by obtain⟨h,n1⟩:=a x o e n;exact b x o h n1
theorem cH.same (s:Same H b):cH F H F b:=λa o e n=>⟨s a o e,n⟩
def Run (F F':Fm):Prop:=Same F.H0 F'.H0/\F'.V=F.V/\F'.z=F.z
theorem Run.refl:Run F F:=⟨λ_ _ e=>e,rfl,rfl⟩
theorem Run.trans (a:Run F d)(b:Run d c):Run F c:=⟨λx o e=>b.1 x o (a.1 x o e),b.2.1.trans a.2.1,b.2.2.trans a.2.2⟩
theorem Run.of (h:a.H0=F.H0)(v:a.V=F.V)(z:a.z=F.z):Run F a:=⟨λ_ _ e=>by rw[h];exact e,v,z⟩
def BR (F:Fm):G->Ad->Prop
 |.fr=>λa=>match a with|some a=>F.H0 a=Z8|none=>False
 |.od=>bZ F
 |.al=>bZ F
 |.nu=>λa=>match a with|some a=>F.H0 a=Z8|none=>False
def sF (K:Z5)(F:Fm)(H:Hp)(D:Ends):Out->Prop
 |.nx aL=>∀σ' H' F',StOk K F' H' σ' aL->Run F F'->cH F H F' H'->D.nx σ' H'
 |.rt g d=>∀v H',(∀a o,F.H0 a=Z9 o->H' a=Z9 o)->Rep K H' (BR F g) v d->D.rt v H'
def tDS (K:Z5)(f:Rho->Res Out):TS:=λD σ H=>∃ρ F out,StOk K F H σ ρ/\f ρ=.ok out/\sF K F H D out
theorem none_of (s:Same H b)(h:b a=Z8):H a=none:=by
 cases e:H a with
 |none=>rfl
 |some o=>rw[s a o e]at h;cases h
theorem BR.run (r:Run F c)(h:BR c g a):BR F g a:=by obtain⟨d,e,f⟩:=r;cases g<;>cases a<;>first|exact h|(exact none_of d h)|(have b:c.V _:=h;rw[e]at b;exact b)|(have b:c.z:=h;rw[f]at b;exact b)
theorem sF.back {K:Z5}{D:Ends}(r:Run F m)(f:cH F H m n)(h:sF K F H D i):sF K m n D i:=by
 cases i with
 |nx p=>exact λj c l so q s=>h j c l so (r.trans q) (f.trans s)
 |rt g d=>exact λv c k t=>h v c (λa o e=>k a o (r.1 a o e)) (t.weak λ_ b=>b.run r)
section
variable {X:Cx}{tg a b c e:Expr}{es:List Expr}{fa fb fc:Rho->Res GD}{pos:Pos}{st:Stmt}{rest A Bs:List Stmt}{fs gs:Rho->Res Out}
theorem OZ:PSs X [] (tDS X.K λa=>.ok (.nx a)):=PSs.imp L8 λD b H ⟨a,F,c,so,e,q⟩=>by cases e;exact q b H F so Run.refl cH.refl
theorem O0 (j:PS X st (tDS X.K fs))(k:PSs X rest (tDS X.K gs)):PSs X (st::rest) (tDS X.K λa=>lQ (fs a) gs):=
 PSs.imp (BA j k) λD o H ⟨a,F,b,so,e,q⟩=>by
  have e:lQ (fs a) gs=.ok b:=e;cases c:fs a with
  |no=>rw[c]at e;cases e
  |exc x=>rw[c]at e;cases e
  |ok l=>
   rw[c]at e;cases l with
   |nx h=>exact⟨a,F,.nx h,so,c,λm p n i r f=>⟨h,n,b,i,e,q.back r f⟩⟩
   |rt g d=>cases e;exact⟨a,F,.rt g d,so,c,q⟩
theorem C3 (hc:PT X c (eA X.K ft))(f:PSs X A (tDS X.K fs))(g:PSs X h (tDS X.K gs)):PS X (.If c A h pos) (tDS X.K λa=>ft a>>=λk=>if k then fs a else gs a):=
 PS.imp (GA hc f g) λD j H ⟨a,F,b,so,e,q⟩=>by
  obtain⟨k,i,e⟩:=Res.aA e;refine⟨a,F,k,so,i,λl d=>?_⟩;cases k with
  |true=>exact fR ⟨a,F,b,so.same d,e,q.back Run.refl (cH.same d)⟩
  |false=>exact fQ ⟨a,F,b,so.same d,e,q.back Run.refl (cH.same d)⟩
theorem O1 {K:Z5}(so:∀a o,F.H0 a=Z9 o->H a=Z9 o)(hv:∀a,H a=Z8->F.V a)(r:Rep K H' (BG F H g) v d):Rep K H' (BR F (jD g)) v d:=by
 refine r.weak λa b=>?_;cases g with
 |fr=>
  cases a with
  |none=>exact b
  |some a=>exact Same.none so b
 |od=>exact fT.aK b
 |al=>exact b
 |nu=>
  cases a with
  |none=>exact b.elim id id
  |some a=>exact b.elim (λb=>Same.none so b) λb=>b.2.1
theorem O2 (c:PE X e (tD X.K fa)):PS X (.Return (Z9 e) pos) (tDS X.K λb=>fa b>>=λx=>.ok (.rt (jD x.1) x.2)):=PS.imp (BD c) λD j H ⟨b,F,d,so,e,q⟩=>by obtain⟨x,f,e⟩:=Res.aA e;cases e;exact⟨b,F,x,so,f,λv g h i=>q v g (λa o e=>h a o (so.ext a o e)) (O1 so.ext so.aK i)⟩
theorem Slot.ret {K:Z5}(so:∀a i,F.O a=Z9 i->F.H0 a=Z8/\F.V a)(h:Slot K F H i g v d):Rep K H (BR F (if imm d then .fr else jD g)) v d:=by
 by_cases c:imm d=Z7
 .rw[vh c];exact Rep.immB d c (h.rep λa i e=>(so a i e).2)
 .rw[vm c];cases g with
  |fr=>
   obtain⟨p,e,o,h⟩:=h
   have k:∀a,Bin F a->BR F .fr a:=λa b=>by
    cases a with
    |none=>exact b
    |some a=>exact b.2.1
   rcases h with⟨f,l,rfl,j,r⟩|⟨f,l,rfl,j,r⟩
   .exact⟨p,f,e,.inl ⟨j,(so _ _ o).1⟩,r.weak k⟩
   .exact⟨p,f,e,j,(so _ _ o).1,bC.same (λ_ _ e=>e) k r⟩
  |od=>exact Rep.weak (λ_ b=>b.aK) h
  |al=>exact h
  |nu=>
   refine Rep.weak (λa b=>?_) h;cases a with
   |none=>exact b
   |some a=>exact b.2.1
theorem z7h {i:Nat}(hN:X.N[i]?=Z9 x)(j:Vis X.env.scope x)(hd:VI x)(c:(x==("__classdict__":Str))=Z6):
  PS X (.Return (Z9 (.Name x p)) pos) (tDS X.K λb=>match b[i]? with|some (Z9 (g,d))=>.ok (.rt (if imm d then .fr else jD g) d)|_=>.no):=
 PS.imp (BD (rE hN j hd c)) λD m H ⟨b,F,f,so,e,q⟩=>by
  have e:(match b[i]? with|some (Z9 (g,d))=>Res.ok (Out.rt (if imm d then .fr else jD g) d)|_=>.no)=.ok f:=e;cases h:b[i]? with
  |none=>rw[h]at e;cases e
  |some o=>
   rw[h]at e;cases o with
   |none=>cases e
   |some gd=>obtain⟨g,d⟩:=gd;cases e;obtain⟨v,k,l⟩:=so.sl i g d h;exact⟨v,k,q v H so.ext (l.ret λa i e=>⟨(so.own a i e).1,(so.own a i e).2.1⟩)⟩
theorem O3 (hs:z27 e=Z6)(c:PE X e (tD X.K fa)):PS X (.Expr e pos) (tDS X.K λa=>fa a>>=λ_=>.ok (.nx a)):=PS.imp (oF c hs) λD d H ⟨a,F,f,so,e,q⟩=>by obtain⟨x,g,e⟩:=Res.aA e;cases e;exact⟨a,F,x,so,g,λv h b i=>q d h F (so.same b) Run.refl (cH.same b)⟩
theorem bC.immB {K:Z5}:∀{kvs:List (Key×V)} es,cG es=Z7->bC K H B kvs es->bC K H B' kvs es
 |kvs,[],_,r=>r
 |kvs,(kd,d)::es,i,r=>by unfold cG at i;rw[fg,a6]at i;obtain⟨k,v,t,e,a,ok,h,q⟩:=r;exact⟨k,v,t,e,a,ok,Rep.immB d i.1 h,bC.immB es i.2 q⟩
theorem StOk.eT {K:Z5}(so:StOk K F H d ρ){a:Ad}(h:nw H a):Bin F a:=by
 cases a with
 |none=>exact h
 |some a=>
  refine⟨?_,Same.none so.ext h,so.aK a h⟩;cases b:F.O a with
  |none=>rfl
  |some j=>obtain⟨_,_,z⟩:=so.own a j b;rcases z with⟨c,z⟩|⟨c,z⟩<;>rw[h]at z<;>cases z
theorem StOk.C4 {K:Z5}(so:StOk K F H σ ρ)(r:Rep K H (Bin F) v d):StOk K (F.drop i) H (σ.set i (Z9 v)) (ρ.set i (Z9 (.nu,d))):=by
 have z:=so.lV (i:=i) (x:=(.al,d)) (Rep.weak (λ_ b=>Bin.aK b) r);refine⟨z.ext,z.aK,z.own,by rw[cg,cg];exact so.len,λj g d' e=>?_⟩;by_cases hj:i=j
 .subst hj;rw[f8]at e;simp only[if_true]at e;split at e
  .rename_i hl;cases e;exact⟨v,by rw[f8];simp[so.len,hl],Rep.weak (λ_ b=>b.drop) r⟩
  .cases e
 .refine z.sl j g d' ?_;rw[bh hj]at e ⊢;exact e
def Fm.take (F:Fm)(i:Nat)(p:Addr):Fm:={F with O:=λa=>if a=p then Z9 i else if F.O a=Z9 i then Z8 else F.O a}
theorem cH.drop (s:Same H H'):cH F H (F.drop i) H':=λa o e n=>⟨s a o e,Fm.bO n⟩
theorem StOk.setA {K:Z5}(so:StOk K F H Q R)(t:Same H s)(r:Rep K s (BG F H x.1) v x.2):
  ∃f,StOk K f s (Q.set i (Z9 v)) (R.set i (Z9 (z1s x)))/\Run F f/\cH F H f s:=by
 have w:=so.same t;obtain⟨g,d⟩:=x
 have l:z1s (g,d)=uS (if imm d then .al else He g,d)->∃f,StOk K f s (Q.set i (Z9 v)) (R.set i (Z9 (z1s (g,d))))/\Run F f/\cH F H f s:=λe=>by
  rw[e];refine⟨F.drop i,w.lV ?_,Run.of rfl rfl rfl,cH.drop t⟩;by_cases k:imm d=Z7
  .rw[vh k];exact Rep.immB d k r
  .rw[vm k];cases g with
   |fr=>exact r.weak λ_ b=>nw.aK so.aK b
   |od=>exact r
   |al=>exact r
   |nu=>exact r.weak λ_ b=>b.elim (nw.aK so.aK) Bin.aK
 have A:z1s (g,d)=(.nu,d)->(∀a,BG F H g a->Bin F a)->∃f,StOk K f s (Q.set i (Z9 v)) (R.set i (Z9 (z1s (g,d))))/\Run F f/\cH F H f s:=λe E=>by rw[e];exact⟨F.drop i,w.C4 (Rep.weak E r),Run.of rfl rfl rfl,cH.drop t⟩
 have own:∀p,F.O p=Z8->H p=Z8->F.H0 p=Z8->F.V p->v=.ref p->z1s (g,d)=(.fr,d)->(∀f,(∀a,Bin F a\/nw H a->a≠Z9 p->Bin f a)->f.O p=Z9 i->Slot K f s i .fr v d)->(((∃I,s p=Z9 (.lst I))\/∃kvs,s p=Z9 (.dK kvs)))->
   ∃f,StOk K f s (Q.set i (Z9 v)) (R.set i (Z9 (z1s (g,d))))/\Run F f/\cH F H f s:=λp U c X Y ev es Z J=>by
  have B:∀a,a≠p->(F.take i p).O a=(F.drop i).O a:=λa ha=>by show(if a=p then Z9 i else _)=_;rw[vm ha];rfl
  have O4:∀a,H a=Z8->F.O a=none:=λa e=>by
   cases C:F.O a with
   |none=>rfl
   |some j=>obtain⟨_,_,h⟩:=so.own a j C;rcases h with⟨I,h⟩|⟨I,h⟩<;>rw[e]at h<;>cases h
  have y:∀a,Bin F a\/nw H a->a≠Z9 p->Bin (F.take i p) a:=λa b fW=>by
   cases a with
   |none=>exact b.elim id id
   |some a=>have q:a≠p:=λz=>fW (by rw[z]);have E:=b.elim id λb=>⟨O4 a b,(λa e=>Same.none so.ext e) a b,so.aK a b⟩;exact⟨by rw[B a q];exact Fm.bO E.1,E.2⟩
  have L:(F.take i p).O p=Z9 i:=by show(if p=p then Z9 i else _)=_;rw[vh rfl]
  refine⟨F.take i p,⟨w.ext,w.aK,λa j e=>?_,by rw[cg,cg];exact so.len,λj g' d' e=>?_⟩,Run.of rfl rfl rfl,λa o e n=>⟨t a o e,?_⟩⟩
  .by_cases q:a=p
   .subst q;exact⟨X,Y,J⟩
   .rw[B a q]at e
    have e':F.O a=Z9 j:=by
     have:(if F.O a=Z9 i then Z8 else F.O a)=Z9 j:=e;split at this
     .cases this
     .exact this
    exact w.own a j e'
  .by_cases hj:i=j
   .subst hj;rw[f8]at e;simp only[if_true]at e;split at e
    .rename_i hl;have C:z1s (g,d)=(g',d'):=by simpa using e
     rw[es]at C;cases C;exact⟨v,by rw[f8];simp[so.len,hl],Z _ y L⟩
    .cases e
   .rw[bh hj]at e ⊢;obtain⟨u,h1,S⟩:=so.sl j g' d' e;refine⟨u,h1,?_⟩;cases g' with
    |fr=>
     obtain⟨T,C,o1,h3⟩:=S;refine⟨T,C,?_,?_⟩
     .rw[B T (λz=>by rw[z,U]at o1;cases o1)];show(if F.O T=Z9 i then Z8 else F.O T)=Z9 j;rw[o1,vm (λz=>hj (vn z).symm)]
     .have M:∀a,Bin F a/\¬nw H a->Bin (F.take i p) a:=λa b=>y a (.inl b.1) λz=>b.2 (z▸c);rcases h3 with⟨G,D,e3,e2,r3⟩|⟨G,D,e3,e2,r3⟩
      .exact .inl ⟨G,D,e3,t _ _ e2,Reps.same t M (Reps.there _ r3)⟩
      .exact .inr ⟨G,D,e3,t _ _ e2,bC.same t M (bC.there _ r3)⟩
    |od=>exact Rep.same t (λ_ b=>b) S
    |al=>exact Rep.same t (λ_ b=>b) S
    |nu=>exact Rep.same t (λa b=>y a (.inl b.1) λz=>b.2 (z▸c)) (Rep.there _ S)
  .have q:a≠p:=λz=>by rw[z,c]at e;cases e
   rw[B a q];exact Fm.bO n
 have N:∀p,H p=Z8->F.O p=none:=λp c=>by
  cases C:F.O p with
  |none=>rfl
  |some j=>obtain⟨_,_,P⟩:=so.own p j C;rcases P with⟨I,P⟩|⟨I,P⟩<;>rw[c]at P<;>cases P
 by_cases k:imm d=Z7
 .exact l (by show(if imm d then _ else _)=_;rw[vh k];rw[vh k];rfl)
 .cases g with
  |od=>exact l (by delta z1s;simp only[vm k];rfl)
  |al=>exact l (by delta z1s;simp only[vm k];cases d<;>rfl)
  |nu=>exact A (by delta z1s;simp only[vm k]) λa b=>b.elim so.eT id
  |fr=>
   cases d with
   |none=>exact absurd rfl k
   |bool b=>exact absurd rfl k
   |int b=>exact absurd rfl k
   |str b=>exact absurd rfl k
   |tuple D=>exact A (by delta z1s;simp only[vm k]) λa b=>so.eT b
   |list D=>
    by_cases m:imms D=Z7
    .obtain⟨p,G,ev,h,rs⟩:=r;rcases h with⟨h,b⟩|⟨_,b⟩
     .have c:H p=none:=b;exact own p (N p c) c (Same.none so.ext c) (so.aK p c) ev (by delta z1s;simp only[vm k,vh m]) (λf E ho=>⟨p,ev,ho,.inl ⟨G,D,rfl,h,Reps.immB D m rs⟩⟩) (.inl ⟨G,h⟩)
     .exact b.elim
    .exact A (by delta z1s;simp only[vm k,vm m]) λa b=>so.eT b
   |dict es=>
    by_cases m:cG es=Z7
    .obtain⟨p,kvs,ev,h,b,rs⟩:=r;have c:=b;exact own p (N p c) c (Same.none so.ext c) (so.aK p c) ev (by delta z1s;simp only[vm k,vh m]) (λf E ho=>⟨p,ev,ho,.inr ⟨kvs,es,rfl,h,bC.immB es m rs⟩⟩) (.inr ⟨kvs,h⟩)
    .exact A (by delta z1s;simp only[vm k,vm m]) λa b=>so.eT b
theorem HG {K:Z5}{te:TE}(h:∀a H Q,tD K fa a H Q->te a H Q)(D:Ends)(a:L2.St)(H:Hp)(q:tDS K (λb=>fa b>>=λx=>.ok (.nx (b.set i (Z9 (z1s x))))) D a H):te a H λv c=>D.nx (a.set i (Z9 v)) c:=by obtain⟨b,F,g,so,e,q⟩:=q;obtain⟨x,j,e⟩:=Res.aA e;cases e;refine h a H _ ⟨b,F,x,so,j,λv c k l=>?_⟩;obtain⟨m,d,r,f⟩:=so.setA k l;exact q _ c m d r f
theorem zop (hN:X.N.Nodup)(b:X.N[i]?=Z9 x)(c:Loc X.env.scope x)(hf:X.fn x=Z7\/X.env.scope.names.lookup x=Z9 .local)(hs:l5 e (Z9 (.Name x px)) pos.line X.env=pure Z6)(d:PE X e (tD X.K fa)):
  PS X (.Assign [.Name x px] e pos) (tDS X.K λa=>fa a>>=λx=>.ok (.nx (a.set i (Z9 (z1s x))))):=
 PS.imp (zil hN b c d hs hf) λD f H q=>HG (λ_ _ _ h=>h) D f H q
theorem zo3 (j:PG X te (tDG X.K (.tp is)))(k:PE X e (tD X.K fa))(hs:sg [te] e pos.line X.env=pure Z6)(l:sj [te] e X.env=pure Z8)(m:(io [te] X.env).map (·.2)=[tm te X.env]):
  PS X (.Assign [te] e pos) (tDS X.K λf=>fa f>>=λx=>cX (.tp is) x f>>=λd=>.ok (.nx d)):=
 PS.imp (znx k j hs l m) λD y H ⟨f,F,p,so,e,q⟩=>by obtain⟨x,r,e⟩:=Res.aA e;obtain⟨d,s,e⟩:=Res.aA e;cases e;refine⟨f,F,x,so,r,λv t i u=>⟨f,F,x,d,so.same i,u.weak λ_ b=>BI.of so.aK b,s,λg w h c=>?_⟩⟩;exact q g t w h (Run.of c.h0 c.v c.z) λa o e n=>⟨i a o e,c.o a n⟩
theorem xo {K:Z5}(so:StOk K F H σ ρ)(h:okIn y=Z7)(r:Rep K H1 (BG F H y.1) u y.2):Rep K H1 (Bin F) u y.2:=by
 obtain⟨g,d⟩:=y;rcases gf.mp h with hi|hg
 .exact Rep.immB d hi r
 rcases gf.mp hg with h|h
 .cases eq_of_beq h;exact Rep.weak (λa b=>so.eT b) r
 .cases eq_of_beq h;exact Rep.weak (λa b=>b.elim so.eT id) r
theorem StOk.mutate {K:Z5}(so:StOk K F H σ ρ)(hO:F.O p=Z9 i)(hσ:σ[i]?=Z9 (Z9 (.ref p)))(ho':(∃xs,o'=.lst xs)\/∃kvs,o'=.dK kvs)
  (hs:Slot K F (upd H p o') i .fr (.ref p) d'):StOk K F (upd H p o') σ ((ρ.set i (Z9 (.fr,d'))).map dV)/\cH F H F (upd H p o'):=by
 obtain⟨h0,hV,rP⟩:=so.own p i hO;have fW:∀a,F.O a=Z8->a≠p:=λa e z=>by rw[z,hO]at e;cases e
 have hU:∀a o,H a=Z9 o->Fix o->a≠p:=λa o e f z=>by subst z;rcases rP with⟨xs,h⟩|⟨xs,h⟩<;>rw[e]at h<;>cases h<;>exact f
 refine⟨⟨λa o e=>?_,λa e=>?_,λa j e=>?_,by rw[ae,cg];exact so.len,λj g d e=>?_⟩,(λa o e n=>⟨by rw[aO (fW a n)];exact e,n⟩)⟩
 .have gL:a≠p:=λz=>by rw[z,h0]at e;cases e
  rw[aO gL];exact so.ext a o e
 .by_cases gL:a=p
  .subst gL;exact hV
  .rw[aO gL]at e;exact so.aK a e
 .obtain⟨x1,x2,x3⟩:=so.own a j e;refine⟨x1,x2,?_⟩;by_cases gL:a=p
  .subst gL;rw[cK];rcases ho' with⟨xs,rfl⟩|⟨xs,rfl⟩
   .exact .inl ⟨xs,rfl⟩
   .exact .inr ⟨xs,rfl⟩
  .rw[aO gL];exact x3
 .rw[a9]at e;by_cases hj:i=j
  .subst hj;have hl:i<ρ.length:=by rw[<-so.len];exact(aq.mp hσ).1
   rw[f8]at e;simp only[if_true,hl]at e;cases(by simpa using e);exact⟨_,hσ,hs⟩
  .rw[bh hj]at e;cases e2:ρ[j]? with
   |none=>rw[e2]at e;cases e
   |some sl=>
    rw[e2]at e;have e3:dV sl=Z9 (g,d):=by simpa using e
    cases sl with
    |none=>cases e3
    |some gd=>
     obtain⟨g0,d0⟩:=gd;obtain⟨v,h1,h2⟩:=so.sl j g0 d0 e2;refine⟨v,h1,?_⟩;cases g0 with
     |fr=>
      cases e3;obtain⟨p',e4,o4,h3⟩:=h2;have zB:p'≠p:=λz=>by rw[z,hO]at o4;simp_all
      have hk:∀a o,H a=Z9 o->(Bin F (Z9 a)\/Fix o)->upd H p o' a=Z9 o:=λa o e b=>by have:a≠p:=b.elim (λb=>fW a b.1) λf=>hU a o e f;rw[aO this];exact e
      refine⟨p',e4,o4,?_⟩;rcases h3 with⟨vs,ds,e5,e6,r⟩|⟨vs,ds,e5,e6,r⟩
      .exact .inl ⟨vs,ds,e5,by rw[aO zB];exact e6,Reps.keep hk (λ_ z=>z) ds r⟩
      .exact .inr ⟨vs,ds,e5,by rw[aO zB];exact e6,bC.keep hk (λ_ z=>z) ds r⟩
     |od=>cases e3;exact Rep.keep (λa o e b=>by have:a≠p:=b.elim (λb z=>by have b1:F.H0 a≠Z8/\F.V a:=b;rw[z]at b1;exact b1.1 h0) λf=>hU a o e f;rw[aO this];exact e) (λ_ z=>z) _ h2
     |nu=>cases e3;exact Rep.keep (λa o e b=>by have:a≠p:=b.elim (λb=>fW a b.1) λf=>hU a o e f;rw[aO this];exact e) (λ_ z=>z) _ h2
     |al=>
      change(if imm d0 then Z9 (G.al,d0)else Z8)=_ at e3;split at e3
      .rename_i him;cases e3;exact Rep.iT (λa o e f=>by rw[aO (hU a o e f)];exact e) _ him h2
      .cases e3
theorem zC {K:Z5}(so:StOk K F H σ ρ)(e:ρ[i]?=Z9 (Z9 (.fr,d))):∃p,σ[i]?=Z9 (Z9 (.ref p))/\F.O p=Z9 i/\((∃vs ds,d=.list ds/\H p=Z9 (.lst vs)/\Reps K H (Bin F) vs ds)\/(∃kvs es,d=.dict es/\H p=Z9 (.dK kvs)/\bC K H (Bin F) kvs es)):=by obtain⟨v,h1,p,rfl,o,h⟩:=so.sl i .fr d e;exact⟨p,h1,o,h⟩
def xp (m:String)(i:Nat)(fs:Rho->Res (List GD)):Rho->Res Out:=λρ=>fs ρ>>=λys=>match ρ[i]? with
 |some (Z9 (.fr,.list xs))=>jY m xs ys>>=λuT=>.ok (.nx ((ρ.set i (Z9 (.fr,.list uT))).map dV))
 |_=>.no
theorem zgo {fs:Rho->Res (List GD)}(hN:X.N[i]?=Z9 x)(C:Vis X.env.scope x)(hd:VI x)(l:(x==("__classdict__":Str))=Z6)(E:PA X (e::es) (tDA X.K fs))(g:((e::es).all fun e=>!isStar e)=Z7)(G:(e::es).length<20)(d:(I.endLine==J.line)=Z7):
  PS X (.Expr (.Call (.Attribute (.Name x p) "append" I) (e::es) [] J) pos) (tDS X.K (xp "append" i fs)):=by
 have c:=g;rw[fg,a6]at c;refine PS.imp (oF (zki PySem.F.plainAttrs_list PySem.F.slot_list_append PySem.F.type_list_append G5 (rE hN C hd l) E rfl (zb9 g G) d (jQ (by simpa using c.1)) (oE c.2)) rfl) λD L H M=>?_;obtain⟨P,F,Q,so,e,q⟩:=M;obtain⟨R,S,e⟩:=Res.aA e;split at e
 .rename_i T hr;obtain⟨U,f,e⟩:=Res.aA e;cases e;obtain⟨pa,v,m,h⟩:=zC so hr;rcases h with⟨j,ds,n,w,r⟩|⟨_,_,n,_⟩
  .cases n;refine⟨_,v,.inl ⟨rfl,j,SqL.of w⟩,P,F,R,so,S,λus V k rs=>?_⟩;simp only[jY,if_true]at f;split at f
   .rename_i y;split at f
    case isFalse=>cases f
    rename_i hc;cases f;rw[bj,decide_eq_true_iff]at hc;obtain⟨u,rfl,W⟩:=rs.one;have A:=k _ _ w;refine⟨pa,j,u,rfl,rfl,A,lU (by rw[r.length];omega),?_⟩
    have Y:Reps X.K (upd V pa (.lst (j++[u]))) (Bin F) (j++[u]) (T++[y.2]):=by
     refine Reps.keep (λa o e b=>?_) (λ_ z=>z) _ (Reps.append (r.same k λ_ z=>z) ⟨u,[],rfl,xo so hc.1 W,rfl⟩)
     have s:a≠pa:=by
      intro z;subst z;rcases b with b|b
      .have B:F.O a=none:=b.1;rw[m]at B;cases B
      .rw[A]at e;cases e;exact b
     rw[aO s];exact e
    obtain⟨t,Z⟩:=(so.same k).mutate m v (.inl ⟨_,rfl⟩) ⟨pa,rfl,m,.inl ⟨_,_,rfl,cK,Y⟩⟩;exact q L _ F t Run.refl ((cH.same k).trans Z)
   .cases f
  .cases n
 .cases e
end
section
variable {X:Cx}{e:Expr}{es:List Expr}{pos:Pos}
theorem zk2 {D:Ends}(so:StOk X.K F H σ ρ)(s1:Same H H1)(hO:F.O pa=Z9 i)(h1:σ[i]?=Z9 (Z9 (.ref pa)))(e4:H pa=Z9 (.lst vs))(r0:Reps X.K H1 (Bin F) ws zs)
  (q:sF X.K F H D (.nx ((ρ.set i (Z9 (.fr,.list zs))).map dV))):D.nx σ (upd H1 pa (.lst ws)):=by
 have e5:=s1 _ _ e4
 have r':Reps X.K (upd H1 pa (.lst ws)) (Bin F) ws zs:=by
  refine Reps.keep (λa o e b=>?_) (λ_ z=>z) _ r0
  have gL:a≠pa:=by
   intro z;subst z;rcases b with b|b
   .have b1:F.O a=none:=b.1;rw[hO]at b1;cases b1
   .rw[e5]at e;cases e;exact b
  rw[aO gL];exact e
 obtain⟨C5,f2⟩:=(so.same s1).mutate hO h1 (.inl ⟨_,rfl⟩) ⟨pa,rfl,hO,.inl ⟨_,_,rfl,cK,r'⟩⟩;exact q σ _ F C5 Run.refl ((cH.same s1).trans f2)
end
theorem uX (h:∀ys,d'=.list ys->False)(hd:(match d with|.list _=>Z6|_=>Z7)=Z7):j' d d'=true:=by
 cases d' with
 |list ys=>exact(h ys rfl).elim
 |_=>cases d<;>first|rfl|cases hd
theorem dO.ins {K:Z5}{F:Fm}{H c:Hp}{d:L2.St}{f:Rho}(so:StOk K F H d f):∀{a:List V} {b:List GD},b.all okIn=Z7->dO K F H c a b->Reps K c (Bin F) a (b.map (·.2))
 |a,[],_,r=>r
 |a,x::b,h,r=>by rw[fg]at h;rw[a6]at h;obtain⟨v,t,e,g,q⟩:=r;exact⟨v,t,e,xo so h.1 g,dO.ins so h.2 q⟩
theorem StOk.eP {K:Z5}{F:Fm}{H:Hp}{s:L2.St}{f:Rho}(so:StOk K F H s f)(j:Nat):StOk K (F.drop j) H s (f.set j (wQ (f.getD j Z8))):=by
 refine⟨so.ext,so.aK,λa i e=>?_,by rw[cg];exact so.len,λi g d e=>?_⟩
 .have x:F.O a=Z9 i:=by
   have e:(if F.O a=Z9 j then Z8 else F.O a)=Z9 i:=e;split at e
   .cases e
   .exact e
  exact so.own a i x
 .by_cases l:j=i
  .subst l;rw[f8]at e;simp only[if_true]at e;split at e
   .rename_i hl;cases t:f[j]? with
    |none=>exact absurd hl (by grind)
    |some sl=>
     have k:wQ sl=Z9 (g,d):=by
      have:f.getD j Z8=sl:=by rw[am,t];rfl
      rw[this]at e;exact vn e
     cases sl with
     |none=>cases k
     |some gd=>
      obtain⟨u,y⟩:=gd;obtain⟨v,m,c⟩:=so.sl j u y t;refine⟨v,m,?_⟩;cases u with
      |fr=>
       cases k;obtain⟨p,rfl,o,h⟩:=c;obtain⟨o1,o2,_⟩:=so.own p j o;have w:Bin (F.drop j) (Z9 p):=⟨by show(if F.O p=Z9 j then Z8 else F.O p)=Z8;rw[vh o],o1,o2⟩;rcases h with⟨n,A,rfl,q,r⟩|⟨n,A,rfl,q,r⟩
       .exact⟨p,n,rfl,.inl ⟨q,w⟩,r.weak λ_ b=>b.drop⟩
       .exact⟨p,n,rfl,q,w,bC.same (λ_ _ e=>e) (λ_ b=>b.drop) r⟩
      |od=>cases k;exact c
      |al=>cases k;exact c
      |nu=>cases k;exact Rep.weak (λ_ b=>b.drop) c
   .cases e
  .rw[bh l]at e;obtain⟨v,m,c⟩:=so.sl i g d e;exact⟨v,m,c.drop λz=>l z.symm⟩
def NC (K:Z5)(H:Hp):Prop:=∀a vs ws,H a=Z9 (.lst vs)->cL K H a ws->False
section
variable {K:Z5}{H:Hp}{B B':Ad->Prop}
mutual
theorem O5 (nc:NC K H)(b0:¬B Z8)(b1:¬B' Z8):∀{v:V} (d d':ag),Rep K H B v d->Rep K H B' v d'->j' d d'=Z7
 |v,.list xs,d',r,r'=>by
  obtain⟨a,vs,rfl,h,q⟩:=r;have h:H a=Z9 (.lst vs):=h.elim (·.1) λh=>absurd h.2 b0;cases d' with
  |list ys=>obtain⟨a',dF,e,h',q'⟩:=r';cases e;have h':H a=Z9 (.lst dF):=h'.elim (·.1) λh=>absurd h.2 b1;rw[h]at h';cases h';exact C6 nc b0 b1 xs ys q q'
  |tuple ys=>obtain⟨a',dF,e,h',q'⟩:=r';cases e;exact(nc a vs dF h h').elim
  |dict ys=>obtain⟨a',kvs,e,h',_⟩:=r';cases e;rw[h]at h';cases h'
  |none=>cases r'
  |bool b=>cases r'
  |int i=>cases r'
  |str z=>cases r'.1
 |v,.tuple xs,d',r,r'=>uX (λys=>by obtain⟨a,vs,rfl,h,q⟩:=r;intro e;subst e;obtain⟨a',dF,e,h',q'⟩:=r';cases e;have h':H a=Z9 (.lst dF):=h'.elim (·.1) λh=>absurd h.2 b1;exact(nc a dF vs h' h).elim) rfl
 |v,.dict xs,d',r,r'=>uX (λys=>by obtain⟨a,vs,rfl,h,q⟩:=r;intro e;subst e;obtain⟨a',dF,e,h',q'⟩:=r';cases e;have h':H a=Z9 (.lst dF):=h'.elim (·.1) λh=>absurd h.2 b1;rw[h]at h';cases h') rfl
 |v,.none,d',r,r'=>uX (λys e=>by subst e;obtain⟨a',dF,e,_⟩:=r';have r:v=.bU:=r;rw[r]at e;cases e) rfl
 |v,.bool b,d',r,r'=>uX (λys e=>by subst e;obtain⟨a',dF,e,_⟩:=r';have r:v=.bl b:=r;rw[r]at e;cases e) rfl
 |v,.int i,d',r,r'=>uX (λys e=>by subst e;obtain⟨a',dF,e,_⟩:=r';have r:v=.int i:=r;rw[r]at e;cases e) rfl
 |v,.str z,d',r,r'=>uX (λys e=>by subst e;obtain⟨a',dF,e,_⟩:=r';have r:v=.str z:=r.1;rw[r]at e;cases e) rfl
theorem C6 (nc:NC K H)(b0:¬B Z8)(b1:¬B' Z8):∀{vs:List V} (xs ys:List ag),Reps K H B vs xs->Reps K H B' vs ys->wR xs ys=Z7
 |vs,[],ys,r,r'=>by
  have r:vs=[]:=r;subst r;cases ys with
  |nil=>rfl
  |cons y ys=>obtain⟨_,_,e,_⟩:=r';cases e
 |vs,x::xs,ys,r,r'=>by
  obtain⟨v,t,rfl,h,q⟩:=r;cases ys with
  |nil=>cases(show v::t=[]from r')
  |cons y ys=>obtain⟨v',t',e,h',q'⟩:=r';cases e;exact bj.mpr ⟨O5 nc b0 b1 x y h h',C6 nc b0 b1 xs ys q q'⟩
end
end
section
variable {K:Z5}{H:Hp}{Bz:Ad->Prop}{p:Addr}{zs:List D}{vz:List V}
mutual
theorem Rep.off (nc:NC K H)(bz:¬Bz Z8)(hp:H p=Z9 (.lst vz))(rz:Reps K H Bz vz zs){B:Ad->Prop}(b0:¬B Z8):∀{v:V} (d:ag),apart (.list zs) d=Z7->Rep K H B v d->Rep K H (λa=>B a/\a≠Z9 p) v d
 |v,.none,_,r=>r
 |v,.bool b,_,r=>r
 |v,.int i,_,r=>r
 |v,.str x,_,r=>r
 |v,.tuple ds,h,r=>by obtain⟨a,vs,e,k,q⟩:=r;exact⟨a,vs,e,k,Reps.off nc bz hp rz b0 ds h q⟩
 |v,.list ds,h,r=>by
  obtain⟨h1,h2⟩:=bj.mp (show(!(j' (.list ds) (.list zs))&&z4g (.list zs) ds)=Z7 from h);obtain⟨a,vs,e,k,q⟩:=r;refine⟨a,vs,e,?_,Reps.off nc bz hp rz b0 ds h2 q⟩;rcases k with⟨k,b⟩|k
  .refine .inl ⟨k,b,λz=>?_⟩;cases z;rw[hp]at k;cases k;have m:wR ds zs=true:=C6 nc b0 bz ds zs q rz;rw[show j' (.list ds) (.list zs)=wR ds zs from rfl,m]at h1;cases h1
  .exact absurd k.2 b0
 |v,.dict es,h,r=>by cases(show Z6=Z7 from h)
theorem Reps.off (nc:NC K H)(bz:¬Bz Z8)(hp:H p=Z9 (.lst vz))(rz:Reps K H Bz vz zs){B:Ad->Prop}(b0:¬B Z8):∀{vs:List V} (ds:List ag),z4g (.list zs) ds=Z7->Reps K H B vs ds->Reps K H (λa=>B a/\a≠Z9 p) vs ds
 |vs,[],_,r=>r
 |vs,d::ds,h,r=>by obtain⟨h1,h2⟩:=bj.mp (show(apart (.list zs) d&&z4g (.list zs) ds)=Z7 from h);obtain⟨v,t,e,k,q⟩:=r;exact⟨v,t,e,Rep.off nc bz hp rz b0 d h1 k,Reps.off nc bz hp rz b0 ds h2 q⟩
end
end
theorem StOk.grown {K:Z5}(so:StOk K F H σ ρ)(nc:NC K H)(s1:Same H H1)(hr:ρ[i]?=Z9 (Z9 (.nu,.list xs)))(hσ:σ[i]?=Z9 (Z9 (.ref p)))(hp:H p=Z9 (.lst vs))(hb:Bin F (Z9 p))(rs:Reps K H (Bin F) vs xs)(ha:z4g (.list xs) xs=Z7)
  (ru:Rep K H1 (λa=>nw H a) u y):StOk K F (upd H1 p (.lst (vs++[u]))) σ ((ρ.map (zl (.list xs))).set i (Z9 (.nu,.list (xs++[y])))):=by
 have b0:¬Bin F none:=id;have zD:=s1 _ _ hp;have hU:∀a o,H1 a=Z9 o->Fix o->a≠p:=λa o e f z=>by subst z;rw[zD]at e;cases e;exact f
 have kp:∀(B:Ad->Prop) a o,H1 a=Z9 o->((B (Z9 a)/\Z9 a≠Z9 p)\/Fix o)->upd H1 p (.lst (vs++[u])) a=Z9 o:=λB a o e b=>by have:a≠p:=b.elim (λb z=>b.2 (by rw[z])) (hU a o e);rw[aO this];exact e
 have nO:=so.same s1;refine⟨λa o e=>?_,λa e=>?_,λa j e=>?_,by rw[cg,ae];exact so.len,λj g d e=>?_⟩
 .have gL:a≠p:=λz=>by rw[z,hb.2.1]at e;cases e
  rw[aO gL];exact nO.ext a o e
 .by_cases gL:a=p
  .subst gL;rw[cK]at e;cases e
  .rw[aO gL]at e;exact nO.aK a e
 .have gL:a≠p:=λz=>by rw[z,hb.1]at e;cases e
  rw[aO gL];exact nO.own a j e
 .by_cases hj:i=j
  .subst hj;rw[f8]at e;simp only[if_true]at e;split at e
   .cases e;refine⟨_,hσ,p,vs++[u],rfl,.inl ⟨cK,hb⟩,Reps.append ?_ ⟨u,[],rfl,?_,rfl⟩⟩
    .have r1:=Reps.off nc b0 hp rs b0 xs ha rs;exact Reps.keep (kp (Bin F)) (λ_ z=>z.1) xs (r1.same s1 λ_ z=>z)
    .have r2:Rep K H1 (λa=>Bin F a/\a≠Z9 p) u y:=ru.weak λa b=>⟨so.eT b,λz=>by rw[z]at b;have b:H p=none:=b;rw[hp]at b;cases b⟩;exact Rep.keep (kp (Bin F)) (λ_ z=>z.1) y r2
   .cases e
  .rw[bh hj,a9]at e;cases e2:ρ[j]? with
   |none=>rw[e2]at e;cases e
   |some sl=>
    rw[e2]at e;have e3:=vn e;cases sl with
    |none=>cases e3
    |some gd=>
     obtain⟨g0,d0⟩:=gd;obtain⟨v,h1,h2⟩:=so.sl j g0 d0 e2;refine⟨v,h1,?_⟩;cases hi:imm d0 with
     |true=>
      have e4:zl (.list xs) (Z9 (g0,d0))=Z9 (.al,d0):=by show(if imm d0=Z7 then _ else _)=_;rw[hi];rfl
      rw[e4]at e3;cases e3;exact Rep.iT (λa o e f=>by rw[aO (hU a o e f)];exact e) _ hi ((h2.same s1).rep nO.hJ)
     |false=>
      cases g0 with
      |od=>
       have e4:zl (.list xs) (Z9 (.od,d0))=Z9 (.od,d0):=by show(if imm d0=Z7 then _ else _)=_;rw[hi];rfl
       rw[e4]at e3;cases e3;exact Rep.keep (λa o e b=>by have:a≠p:=b.elim (λb z=>by have b1:F.H0 a≠Z8/\F.V a:=b;rw[z]at b1;exact b1.1 hb.2.1) λf=>hU a o e f;rw[aO this];exact e) (λ_ z=>z) _ (h2.same s1)
      |nu=>
       have e4:zl (.list xs) (Z9 (.nu,d0))=if apart (.list xs) d0=Z7 then Z9 (.nu,d0)else none:=by show(if imm d0=Z7 then _ else _)=_;rw[hi];rfl
       rw[e4]at e3;split at e3
       .rename_i gL;have r1:=Rep.off nc b0 hp rs b0 d0 gL h2;cases e3;exact Rep.keep (kp (Bin F)) (λ_ z=>z.1) _ (r1.same s1 λ_ z=>z)
       .cases e3
      |fr=>change(if imm d0=Z7 then Z9 (G.al,d0)else Z8)=_ at e3;rw[hi]at e3;cases e3
      |al=>change(if imm d0=Z7 then Z9 (G.al,d0)else Z8)=_ at e3;rw[hi]at e3;cases e3
section
variable {X:Cx}{tg a b c e:Expr}{es:List Expr}{fa fb fc:Rho->Res GD}{pos:Pos}{st:Stmt}{rest A Bs:List Stmt}{fs gs:Rho->Res Out}
theorem C7 (k c:Key):eqK (kD c) (kD k)=decide (c=k):=by
 cases c<;>cases k
 .rename_i a b;show(a==b)=_;rw[lx,decide_eq_decide];exact⟨λh=>by rw[h],λh=>Sum.inl.inj h⟩
 .rfl
 .rfl
 .rename_i a b;show decide (a=b)=_;rw[decide_eq_decide];exact⟨λh=>by rw[h],λh=>Sum.inr.inj h⟩
theorem bC.any {K:Z5}(k:Key):∀{kvs:List (Key×V)} {es:cR},bC K H B kvs es->(es.any λe=>eqK e.1 (kD k))=kvs.any λa=>decide (a.1=k)
 |kvs,[],r=>by have e:kvs=[]:=r;subst e;rfl
 |kvs,(kd,d)::es,r=>by obtain⟨c,v,t,e,b,_,_,q⟩:=r;subst e b;rw[l9,l9,q.any k,C7]
theorem bC.lX {K:Z5}(k:Key)(h:Rep K H B v d):∀{kvs:List (Key×V)} {es:cR},bC K H B kvs es->bC K H B (kvs.map λa=>if a.1=k then(a.1,v)else a) (es.map λe=>if eqK e.1 (kD k)then(e.1,d)else e)
 |kvs,[],r=>by have e:kvs=[]:=r;subst e;exact rfl
 |kvs,(kd,d0)::es,r=>by
  obtain⟨b,f,t,e,g,ok,h0,q⟩:=r;subst e g;rw[bp,bp];have c:=q.lX k h;by_cases z:b=k
  .subst z;rw[vh rfl,vh (by rw[C7];simp)];exact⟨b,v,_,rfl,rfl,ok,h,c⟩
  .rw[vm z,vm (by rw[C7];simpa using z)];exact⟨b,f,_,rfl,rfl,ok,h0,c⟩
theorem bC.app {K:Z5}(ok:keyOk k)(h:Rep K H B v d):∀{kvs:List (Key×V)} {es:cR},bC K H B kvs es->bC K H B (kvs++[(k,v)]) (es++[(kD k,d)])
 |kvs,[],r=>by have e:kvs=[]:=r;subst e;exact⟨k,v,[],rfl,rfl,ok,h,rfl⟩
 |kvs,(kd,d0)::es,r=>by obtain⟨b,c,t,e,f,a,h0,q⟩:=r;subst e f;exact⟨b,c,_,rfl,rfl,a,h0,q.app ok h⟩
theorem bC.put {K:Z5}(ok:keyOk k)(h:Rep K H B v d){es:cR}(r:bC K H B kvs es):bC K H B (putK kvs k v) (dput es (kD k) d):=by
 unfold putK dput;rw[r.any k];split
 .exact r.lX k h
 .exact r.app ok h
def C8 (td ty tv:TE):TS:=λD σ H=>tv σ H λv H1=>td σ H1 λx H2=>ty σ H2 λy H3=>(∃a H4,x=.ref a/\DPut H3 a y v H4/\D.nx σ H4)\/G3 x y v H3 λH4=>D.nx σ H4
theorem O6 (hu:X.A.units+1<cLine)(p:PE X o q)(t:PE X i ty)(w:PE X value tv)(hs:l5 value (Z9 (.Subscript o i d)) pos.line X.env=pure Z6):PS X (.Assign [.Subscript o i d] value pos) (C8 q ty tv):=by
 intro b s c H D I h;refine wpAny_Assign_Subscript (aI (w b s c H _ I h) λr z ⟨v,B,C,k,E⟩=>aI (p b z c B _ C E) λu F ⟨x,G,J,l,K⟩=>aI (t b F c G _ J K) λL M ⟨y,N,m,n,e⟩=>?_) hs;rcases e with⟨a,f,ex,g,e⟩|e
 .subst ex;obtain rfl:u=ZU a:=l;exact zbk hu m g n k λO j=>⟨c,f,j,e⟩
 .exact aI (set_list b M c N x y v u L r _ m l n k e) λ_ O ⟨f,j,P⟩=>⟨c,f,j,P⟩
def C9 (i:Nat)(fv fk:Rho->Res GD):Rho->Res Out:=λρ=>fv ρ>>=λy=>fk ρ>>=λx=>match ρ[i]? with
 |some (Z9 (.fr,.dict es))=>if jS x.2&&okIn y&&decide (es.length<bD)then .ok (.nx ((ρ.set i (Z9 (.fr,.dict (dput es x.2 y.2)))).map dV))else .no
 |some (Z9 (.fr,.list xs))=>(match x.2 with
  |.int j=>if okIn y then(match iG xs.length j with|some n=>.ok (.nx ((ρ.set i (Z9 (.fr,.list (xs.set n y.2)))).map dV))|none=>.no)else .no
  |_=>.no)
 |_=>.no
theorem zuf (hu:X.A.units+64<cLine)(hN:X.N[i]?=Z9 x)(Y:Vis X.env.scope x)(hd:VI x)(J:(x==("__classdict__":Str))=Z6)(hs:z27 value=Z6)(hk:PE X Z (tD X.K fk))(L:PE X value (tD X.K fv)):
  PS X (.Assign [.Subscript (.Name x p) Z T] value pos) (tDS X.K (C9 i fv fk)):=by
 refine PS.imp (O6 (by omega) (rE hN Y hd J) hk L (uN hs _ _ _)) λD U H zz=>?_;obtain⟨M,F,out,so,e,q⟩:=zz;obtain⟨y,e1,e⟩:=Res.aA e;obtain⟨P,V,e⟩:=Res.aA e;refine⟨M,F,y,so,e1,λv H1 Q rv=>?_⟩;have c:=so.same Q;split at e
 .rename_i es hr;split at e
  case isFalse=>cases e
  rename_i B;cases e;rw[a6,a6,decide_eq_true_eq]at B;obtain⟨f,E,l,h⟩:=zC c hr;rcases h with⟨_,_,m,_⟩|⟨s,HH,m,R,r⟩
  .cases m
  .cases m;refine⟨_,E,M,F,P,c,V,λw C d g=>.inl ?_⟩;obtain⟨k,ek,rfl,ok⟩:=xl B.1.1 g;have G:=d _ _ R;refine⟨f,_,rfl,DPut.k G (r.length▸b7 B.2 (lU (ah _))),?_⟩
   have hk:∀a o,C a=Z9 o->(Bin F (Z9 a)\/Fix o)->upd C f (.dK (putK s k v)) a=Z9 o:=λa o e b=>by
    have t:a≠f:=by
     intro z;subst z;rcases b with b|b
     .have I:F.O a=none:=b.1;rw[l]at I;cases I
     .rw[G]at e;cases e;exact b
    rw[aO t];exact e
   have r':bC X.K (upd C f (.dK (putK s k v))) (Bin F) (putK s k v) (dput es P.2 y.2):=by rw[ek];exact bC.keep hk (λ_ z=>z) _ (bC.put ok (xo so B.1.2 (rv.same d λ_ z=>z)) (r.same d λ_ z=>z))
   obtain⟨u,S⟩:=(c.same d).mutate l E (.inr ⟨_,rfl⟩) ⟨f,rfl,l,.inr ⟨_,_,rfl,cK,r'⟩⟩;exact q U _ F u Run.refl ((cH.same (Q.trans d)).trans S)
 .rename_i xs hr;split at e
  case h_2=>cases e
  rename_i j hj;split at e
  case isFalse=>cases e
  rename_i B;split at e
  case h_2=>cases e
  rename_i n hn;cases e;obtain⟨f,E,l,h⟩:=zC c hr;rcases h with⟨W,ds,m,R,r⟩|⟨_,_,m,_⟩
  .cases m;refine⟨_,E,M,F,P,c,V,λw C d g=>.inr ?_⟩;rw[hj]at g;subst g;have G:=d _ _ R;refine⟨f,W,j,n,rfl,rfl,G,by rw[r.length];exact hn,?_⟩
   have hk:∀a o,C a=Z9 o->(Bin F (Z9 a)\/Fix o)->upd C f (.lst (W.set n v)) a=Z9 o:=λa o e b=>by
    have t:a≠f:=by
     intro z;subst z;rcases b with b|b
     .have I:F.O a=none:=b.1;rw[l]at I;cases I
     .rw[G]at e;cases e;exact b
    rw[aO t];exact e
   obtain⟨u,S⟩:=(c.same d).mutate l E (.inl ⟨_,rfl⟩) ⟨f,rfl,l,.inl ⟨_,_,rfl,cK,(Reps.keep hk (λ_ z=>z) _ (Reps.set (xo so B (rv.same d λ_ z=>z)) n (r.same d λ_ z=>z)))⟩⟩;exact q U _ F u Run.refl ((cH.same (Q.trans d)).trans S)
  .cases m
 .cases e
def tDF (K:Z5)(f:Rho->Res (G×List D×Rho)):TI:=λσ H R=>∃ρ F w,StOk K F H σ ρ/\f ρ=.ok w/\∀J B H' F',Same H H'->Run F F'->cH F H F' H'->StOk K F' H' σ w.2.2->(∀a,B (Z9 a)->F'.O a=Z8)->(∀a,B a->BI F' w.1 a)->Walk K J B H' w.2.1->R J H'
theorem O7 {K:Z5}(so:StOk K F H i k){a:Addr}(f:g≠.al)(h:BG F H g (Z9 a)):F.O a=none:=by
 cases d:F.O a with
 |none=>rfl
 |some j=>
  obtain⟨h0,_,b⟩:=so.own a j d;cases g with
  |fr=>have c:=h;rcases b with⟨e,b⟩|⟨e,b⟩<;>rw[c]at b<;>cases b
  |od=>exact absurd h0 h.1
  |al=>exact absurd rfl f
  |nu=>
   rcases h with h|h
   .have c:H a=none:=h;rcases b with⟨e,b⟩|⟨e,b⟩<;>rw[c]at b<;>cases b
   .have c:F.O a=none:=h.1;rw[c]at d;cases d
theorem HI (h:PI X i e (tDW X.K j)):PI X i e (tDF X.K λc=>j c>>=λw=>if w.1==.al then .no else .ok (w.1,w.2,c)):=
 PI.imp h λo H R ⟨c,F,w,so,e,q⟩=>by
  obtain⟨k,l,e⟩:=Res.aA e;refine⟨c,F,k,so,l,λJ B m d g n=>?_⟩;split at e
  .cases e
  .rename_i f;cases e;exact q J B m F d Run.refl (cH.same d) (so.same d) (λa b=>O7 so (λz=>f (by rw[z];rfl)) (g _ b).1) (λa b=>BI.of so.aK (g a b).1) n
theorem StOk.giveUp {K:Z5}(so:StOk K F H σ ρ)(e:ρ[i]?=Z9 (Z9 (.fr,d))):StOk K (F.drop i) H σ (ρ.set i (Z9 (.al,d))):=by
 obtain⟨v,h1,h2⟩:=so.sl i .fr d e;have:=so.lV (i:=i) (x:=(.al,d)) (h2.rep so.hJ)
 have es:σ.set i (Z9 v)=σ:=by
  apply ol;intro j;by_cases hj:i=j
  .subst hj;rw[f8];simp only[if_true,(aq.mp h1).1];exact h1.symm
  .rw[bh hj]
 rw[es]at this;exact this
theorem O8 (hN:X.N[i]?=Z9 x)(o:Vis X.env.scope x)(hd:VI x)(h:(x==("__classdict__":Str))=Z6):PI X T (.Name x pos) (tDF X.K (zk i)):=by
 rintro c s t H R I ⟨U,F,w,so,e,q⟩
 unfold zk at e;split at e
 .rename_i d hr;obtain⟨W,z,e⟩:=Res.aA e;cases e;obtain⟨v,A,C⟩:=so.sl i .fr d hr;refine aI (rE hN o hd h c s t H (λu f=>u=v/\f=H) I ⟨v,A,rfl,rfl⟩) λu Y D=>?_;obtain⟨y,f,E,G,g,L⟩:=D;subst g L
  let B:Ad->Prop:=λa=>match a with|some a=>(F.drop i).O a=Z8/\F.V a|none=>False
  have M:Rep X.K f B y d:=by
   obtain⟨p,g,l,P⟩:=C
   have m:∀a,Bin F a->B a:=λa b=>by
    cases a with
    |none=>exact b
    |some a=>exact⟨Fm.bO b.1,b.2.2⟩
   have n:B (Z9 p):=⟨by show(if F.O p=Z9 i then Z8 else F.O p)=Z8;rw[vh l],so.hJ p i l⟩;rcases P with⟨j,Q,rfl,k,r⟩|⟨j,Q,rfl,k,r⟩
   .exact⟨p,j,g,.inl ⟨k,n⟩,r.weak m⟩
   .exact⟨p,j,g,k,n,bC.same (λ_ _ e=>e) m r⟩
  refine z3w E G M z λJ S=>q J B f (F.drop i) (Same.refl _) (Run.of rfl rfl rfl) (cH.drop (Same.refl _)) (so.giveUp hr) (λa b=>b.1) (λa b=>?_) S;cases a with
  |none=>exact b.elim
  |some a=>exact b.2
 .cases e
def Fm.lY (F:Fm)(H:Hp):Fm:={F with O:=λa=>match H a with|some (.dK _)=>F.O a|_=>Z8}
theorem Fm.hW {F:Fm}{a:Addr}(h:F.O a=Z8):(F.lY H).O a=none:=by
 unfold Fm.lY
 dsimp only
 split<;>first|exact h|rfl
theorem StOk.lY {K:Z5}(so:StOk K F H q l):StOk K (F.lY H) H q (l.map Cp) where
 ext:=so.ext
 aK:=so.aK
 own:=λa i e=>by
  have c:F.O a=Z9 i:=by
   unfold Fm.lY at e
   dsimp only at e
   split at e
   .exact e
   .cases e
  exact so.own a i c
 len:=by rw[ae];exact so.len
 sl:=λi g d e=>by
  rw[a9]at e;cases h:l[i]? with
  |none=>rw[h]at e;cases e
  |some o=>
   rw[h]at e;have c:Cp o=Z9 (g,d):=by simpa using e
   cases o with
   |none=>cases c
   |some gd=>
    obtain⟨m,d0⟩:=gd;obtain⟨v,s,f⟩:=so.sl i m d0 h;refine⟨v,s,?_⟩
    have n:∀a,Bin F a->Bin (F.lY H) a:=λa b=>by
     cases a with
     |none=>exact b
     |some a=>exact⟨Fm.hW b.1,b.2.1,b.2.2⟩
    cases m with
    |od=>cases c;exact f
    |al=>cases c;exact f
    |nu=>cases c;exact Rep.weak n f
    |fr=>
     obtain⟨p,ev,t,u⟩:=id f;rcases u with⟨y,w,rfl,j,r⟩|⟨kvs,es,rfl,j,r⟩
     .have k:Z9 (G.al,Z1 w)=Z9 (g,d):=c;cases k;have x:=Slot.rep so.hJ f;exact x
     .have k:Z9 (G.fr,PyData.dict es)=Z9 (g,d):=c;cases k;refine⟨p,ev,?_,.inr ⟨kvs,es,rfl,j,bC.same (λ_ _ z=>z) n r⟩⟩;unfold Fm.lY
      dsimp only
      rw[j];exact t
theorem Dc (A:PE X e (tD X.K fa)):PI X tg e (tDF X.K λk=>fa k>>=λx=>jZ x k):=by
 rintro j s C H R I ⟨k,F,w,so,c,q⟩
 obtain⟨⟨g,d⟩,D,c⟩:=Res.aA c;unfold jZ at c
 dsimp only at c
 split at c
 .rename_i l;split at c
  .rename_i E;cases c;refine aI (A j s C H (λv f=>Same H f/\Rep X.K f (BG F H g) v (.list l)) I ⟨k,F,_,so,D,λv f u m=>⟨u,m⟩⟩) λv u G=>?_;obtain⟨y,f,L,M,i,m⟩:=G
   let B:Ad->Prop:=λa=>match a with|some a=>(F.lY f).O a=Z8/\F.V a|none=>F.z
   have t:Rep X.K f B y (.list l):=by
    obtain⟨p,N,P,h,r⟩:=m;refine⟨p,N,P,?_,Reps.immB l E r⟩;rcases h with⟨h,b⟩|⟨h,b⟩
    .refine .inl ⟨h,?_,(BG.aK so.aK b:bZ F (Z9 p))⟩;unfold Fm.lY
     dsimp only
     rw[h]
    .exact .inr ⟨h,(BG.aK so.aK b:bZ F Z8)⟩
   refine z3w L M t rfl λJ Q=>q J B f (F.lY f) i (Run.of rfl rfl rfl) (λa o e n=>⟨i a o e,Fm.hW n⟩) ((so.same i).lY) (λa b=>b.1) (λa b=>?_) Q;cases a with
   |none=>exact b
   |some a=>exact b.2
  .cases c
 .cases c
theorem PI.HJ {k:Rho->Bool}(hf:PI X tg e (tDF X.K f))(hg:PI X tg e (tDF X.K g)):PI X tg e (tDF X.K λρ=>if k ρ then f ρ else g ρ):=by
 rintro pins s σ H R I ⟨ρ,F,w,so,e,q⟩
 dsimp only at e
 cases hk:k ρ with
 |true=>exact hf pins s σ H R I ⟨ρ,F,w,so,by rw[vh hk]at e;exact e,q⟩
 |false=>exact hg pins s σ H R I ⟨ρ,F,w,so,by rw[vm (hk▸cv)]at e;exact e,q⟩
theorem zuz (hp:g6 (model X.prog X.w) X.A X.env X.xe)(hc:X.calm=Z7)(L:PI X tg iter (tDF X.K fw))(hg:PG X tg (tDG X.K t))(hb:PSs X M (tDS X.K fs))(hs:∀x,gm iter X.env x=pure x):
  PS X (.For tg iter M [] pos) (tDS X.K λU=>fw U>>=λw=>cY (λx E=>cX t (gJ x w.1,x) E>>=λc=>fs c) w.2.1 w.2.2):=
 PS.imp (zi2 hp hc L hg hb hs) λD σ H ⟨U,F,Y,so,e,q⟩=>by
  obtain⟨w,e1,e⟩:=Res.aA e;refine⟨U,F,w,so,e1,λJ B H1 k s1 r1 f1 N Dd De wk=>?_⟩;have q1:=q.back r1 f1;generalize hf:(λx E=>cX t (gJ x w.1,x) E>>=λc=>fs c)=f at e
  have kp:∀{l:Fm} {r:Hp},cH k H1 l r->Kp B H1 r:=λ{l r} fr a o e b=>by
   have hO:k.O a=none:=by
    rcases b with b|b
    .exact Dd a b
    .cases h:k.O a with
     |none=>rfl
     |some j=>obtain⟨_,_,P⟩:=N.own a j h;rcases P with⟨xs,P⟩|⟨xs,P⟩<;>rw[e]at P<;>cases P<;>exact b.elim
   exact(fr a o e hO).1
  let W:Nat->Nat->L2.St->Hp->Prop:=λi m G r=>m=w.2.1.length-i/\i<=w.2.1.length/\∃c l,StOk X.K l r G c/\Run k l/\cH k H1 l r/\cY f (w.2.1.drop i) c=.ok Y
  refine⟨W,⟨_,rfl,e8 _,w.2.2,k,N,Run.refl,cH.refl,e⟩,?_⟩
  rintro i m G r ⟨rfl,Df,c,l,Q,I,R,h⟩
  by_cases s:i<w.2.1.length
  .refine .inr ⟨wk.go r (kp R) i s,W (i+1) (w.2.1.length-(i+1)),λσ' H' p=>⟨_,by omega,p⟩,λx H3 y=>?_⟩;obtain⟨s3,d,hd,rx⟩:=wk.jO r (kp R) i x H3 s y
   have Dg:w.2.1.drop i=d::w.2.1.drop (i+1):=by
    rw[gb s];have:w.2.1[i]=d:=by rw[au s]at hd;simp_all
    rw[this]
   rw[Dg]at h;simp only[cY]at h
   have xn:Rep X.K H3 (BI l (gJ d w.1)) x d:=by
    have Dh:∀g a,BI k g a->BI l g a:=λg a b=>by cases g<;>cases a<;>first|exact b|(have C:k.V _:=b;rw[<-I.2.1]at C;exact C)|(have C:k.z:=b;rw[<-I.2.2]at C;exact C)|(have C:k.H0 _≠Z8/\k.V _:=b;exact⟨λz=>C.1 (none_of I.1 z),by rw[I.2.1];exact C.2⟩)
    unfold gJ;by_cases L:imm d=Z7
    .rw[vh L];exact Rep.immB d L rx
    .rw[vm L];exact rx.weak λa b=>Dh _ _ (De a b)
   cases T:f d c with
   |no=>rw[T]at h;cases h
   |exc z=>rw[T]at h;cases h
   |ok o1=>
    obtain⟨S,e4,e5⟩:=Res.aA (by rw[<-T,<-hf]);rw[T]at h;refine⟨c,l,(gJ d w.1,d),S,Q.same s3,xn,e4,λjC F4 qJ u=>⟨S,F4,o1,qJ,e5,?_⟩⟩;have r4:=I.trans (Run.of u.h0 u.v u.z);have f4:=R.trans λa o e n=>⟨s3 a o e,u.o a n⟩;cases o1 with
    |nx Di=>exact λσ' H' F' qK r' f'=>⟨rfl,s,Di,F',qK,r4.trans r',f4.trans f',h⟩
    |rt g d=>cases h;exact(q1.back r4 f4:sF X.K F4 H3 D (.rt g d))
  .have Dj:i=w.2.1.length:=by omega
   subst Dj;rw[pc]at h;cases h;exact .inl ⟨wk.stop r (kp R),q1 G r l Q I R⟩
theorem O9 (E:g6 (model X.prog X.w) X.A X.env X.xe)(hc:PT X c (eA X.K ft))(G:PSs X j (tDS X.K fs)):PS X (.While c j [] pos) (tDS X.K (wO ft fs n)):=
 PS.imp (Md E hc G) λD Q H ⟨I,F,o,so,e,q⟩=>by
  let W:Nat->L2.St->Hp->Prop:=λm h r=>∃a f,StOk X.K f r h a/\Run F f/\cH F H f r/\wO ft fs m a=.ok o
  refine⟨W,⟨n,I,F,so,Run.refl,cH.refl,e⟩,?_⟩
  rintro m h r ⟨a,f,i,s,J,b⟩
  cases m with
  |zero=>cases b
  |succ m=>
   obtain⟨k,L,b⟩:=Res.aA b;refine⟨a,f,k,i,L,λB t=>?_⟩;have u:=J.trans (cH.same t);cases k with
   |false=>cases b;exact fQ (q h B f (i.same t) s u)
   |true=>
    refine fR ⟨W m,λv M p=>⟨m,Nat.lt_succ_self m,p⟩,?_⟩;cases l:fs a with
    |no=>rw[l]at b;cases b
    |exc z=>rw[l]at b;cases b
    |ok C=>
     rw[l]at b;refine⟨a,f,C,i.same t,l,?_⟩;cases C with
     |nx x=>exact λv M N y O P=>⟨x,N,y,s.trans O,u.trans P,b⟩
     |rt g d=>cases b;exact(q.back s u:sF X.K f B D (.rt g d))
end
def rAgg (K:Z5)(f:String):List V->Hp->VK->Prop:=λxs H Q=>∃B x dx l ys d,xs=[x]/\Rep K H B x dx/\z4y dx=.ok (l,ys)/\aggD f l ys=.ok d/\∀w H',Same H H'->Rep K H' (λa=>nw H a\/(imms ys=Z6/\B a)) w d->Q w H'
theorem sG {K:Z5}(r:Rep K H B x dx)(e:z4y dx=.ok (l,ys)):∃a vs,x=.ref a/\(if l then SqL K H a vs else cL K H a vs)/\Reps K H B vs ys:=by
 cases dx<;>try (cases e;done)
 .cases e;obtain⟨a,vs,rfl,h,q⟩:=nN r;exact⟨a,vs,rfl,h,q⟩
 .cases e;obtain⟨a,vs,rfl,h,q⟩:=r;exact⟨a,vs,rfl,h,q⟩
theorem Reps.kC {K:Z5}(r:Reps K H B c b):Reps K H (λa=>nw H a\/(imms b=Z6/\B a)) c b:=by
 cases d:imms b with
 |true=>exact Reps.immB b d r
 |false=>exact r.weak λ_ z=>.inr ⟨rfl,z⟩
section
variable {X:Cx}{e:Expr}{fa:Rho->Res GD}{pos:Pos}
theorem zi5 (so:StOk X.K F H l j)(e:((fa j>>=fun x=>z4y x.2>>=fun p=>Res.ok (x.1,p))>>=fun w=>aggD f w.2.1 w.2.2>>=fun d=>Res.ok ((gJ d (if imms w.2.2 then .fr else agG w.1),d):GD))=.ok z)(q:∀v g,Same H g->Rep X.K g (BG F H z.1) v z.2->Q v g):
  wy (rAgg X.K f) (BQ (tD X.K fa) wu) l H Q:=by
 obtain⟨w,b,e⟩:=Res.aA e;obtain⟨x,m,b⟩:=Res.aA b;obtain⟨p,n,b⟩:=Res.aA b;cases b;obtain⟨d,o,e⟩:=Res.aA e;cases e;refine⟨j,F,x,so,m,λv A c r=>⟨_,v,x.2,p.1,p.2,d,rfl,r,n,o,λs t u i=>q s t (c.trans u) (sE i λa h=>?_)⟩⟩;cases y:imms p.2 with
 |true=>
  rcases h with h|⟨h,_⟩
  .exact nw.back c h
  .rw[y]at h;cases h
 |false=>
  have al:bZ F a:=by
   rcases h with h|⟨_,h⟩
   .exact(nw.back c h).aK so.aK
   .exact h.aK so.aK
  cases k:x.1 with
  |fr=>
   rcases h with h|⟨_,h⟩
   .exact nw.back c h
   .rw[k]at h;exact h
  |od=>exact al
  |al=>exact al
  |nu=>
   rcases h with h|⟨_,h⟩
   .exact .inl (nw.back c h)
   .rw[k]at h;exact h
theorem O':CallR X (.type "list") (rAgg X.K "list"):=by
 refine CallR.imp Nb λi H Q h=>?_;obtain⟨B,x,dx,l,j,d,rfl,r,e,f,q⟩:=h;obtain⟨a,b,rfl,h,rs⟩:=sG r e;cases f
 have g:SqL X.K H a b\/cL X.K H a b:=by
  cases l with
  |true=>exact .inl h
  |false=>exact .inr h
 refine⟨a,b,rfl,g,λp c=>q _ _ (Same.upd c) (oT c rs.kC (λ_ z=>z) (.inl c))⟩
theorem Pa:CallR X (.type "tuple") (rAgg X.K "tuple"):=by
 refine CallR.imp Nc λg H Q h=>?_;obtain⟨B,x,dx,l,i,d,rfl,r,e,f,q⟩:=h;obtain⟨a,b,rfl,h,rs⟩:=sG r e;cases f;refine⟨a,b,rfl,?_⟩;cases l with
 |true=>exact .inl ⟨h,λp c=>q _ _ (Same.upd c) (zu c rs.kC λ_ z=>z)⟩
 |false=>exact .inr ⟨h,q _ H (Same.refl H) ⟨a,b,rfl,h,rs.kC⟩⟩
theorem HK {K:Z5}:∀{a:List D} {bs:List Bool} {b:List V},allB a=Z9 bs->Reps K H B b a->b=bs.map V.bl
 | [],bs,b,e,r=>by cases e;exact r
 |d::a,bs,b,e,r=>by
  cases d<;>try (cases e;done)
  simp only[allB]at e;cases c:allB a with
  |none=>rw[c]at e;cases e
  |some f=>rw[c]at e;cases e;obtain⟨v,t,rfl,g,h⟩:=r;rw[g,HK c h];rfl
theorem HL {K:Z5}:∀{a:List D} {n:Int} {c:List V},dY a=Z9 n->Reps K H B c a->∃ns:List Int,c=ns.map V.int/\ns.sum=n
 | [],n,c,e,r=>by cases e;exact⟨[],r,rfl⟩
 |d::a,n,c,e,r=>by
  cases d<;>try (cases e;done)
  rename_i b;change(dY a).map (b+ ·)=_ at e;cases f:dY a with
  |none=>rw[f]at e;cases e
  |some m=>rw[f]at e;cases e;obtain⟨v,t,rfl,g,h⟩:=r;obtain⟨ns,i,j⟩:=HL f h;exact⟨b::ns,by rw[g,i];rfl,by rw[sv,j]⟩
theorem Pb (e:X.calm=Z7):CallR X (.builtin "sum") (λa H Q=>∃(p:Addr) (ns:List Int),a=[.ref p]/\SqL X.K H p (ns.map V.int)/\Q (.int ns.sum) H):=by
 rintro c s h H a i Q I r ⟨p,ns,rfl,f,q⟩
 obtain⟨u,rfl,rfl⟩:=vals1 r;obtain⟨b,rv,pl,j⟩:=I.list f;have d:rh b.toArray.toList ns:=intsAre_of rv;have hl:=pl.isList;obtain⟨a,ex⟩:=d.allInts.items;have hn:=d.numsOf;rw[ex]at hl hn;refine sum_intListG (I.ok.hd e) hl λk l g hk=>⟨.int ns.sum,H,I.kept hk,⟨g,?_⟩,q⟩;rw[preSum_eq,fu (by simp)];rw[nums_intItems]at hn;rw[hn]
theorem Pc (f:X.calm=Z7):CallR X (.builtin "sum") (rAgg X.K "sum"):=by
 refine CallR.imp (Pb f) λj H Q h=>?_;obtain⟨B,x,k,l,g,d,rfl,r,e,b,q⟩:=h;obtain⟨a,m,rfl,h,i⟩:=sG r e;simp only[aggD,show("sum":String)≠"list" by decide,show("sum":String)≠"tuple" by decide,show("sum":String)≠"sorted" by decide,if_true,if_false]at b;cases l with
 |false=>cases b
 |true=>
  cases c:dY g with
  |none=>rw[c]at b;cases b
  |some n=>rw[c]at b;cases b;obtain⟨ns,ev,en⟩:=HL c i;subst ev en;exact⟨a,ns,rfl,h,q _ H (Same.refl H) rfl⟩
theorem zbs (hc:CallR X (.type f) (rAgg X.K f))(hm:X.mg x=Z8)(c:eh x=Z9 (.type f))(hs:isStar y=Z6)(g:PE X y (tD X.K fa))(h:Gl X x)(hn:x≠"__name__")(a:VI x):
  PE X (.Call (.Name x p) [y] [] pos) (tD X.K λb=>(fa b>>=λx=>z4y x.2>>=λp=>Res.ok (x.1,p))>>=λw=>aggD f w.2.1 w.2.2>>=λd=>.ok (gJ d (if imms w.2.2 then .fr else agG w.1),d)):=
 PE.imp (NA hc hm c (jR g rK hs) (by simp[hs]) h hn a) λi H Q ⟨b,F,z,so,e,q⟩=>zi5 so e q
theorem zdi (hc:CallR X (.builtin f) (rAgg X.K f))(hm:X.mg x=Z8)(c:eh x=Z9 (.builtin f))(hs:isStar y=Z6)(g:PE X y (tD X.K fa))(h:Gl X x)(hn:x≠"__name__")(a:VI x):
  PE X (.Call (.Name x p) [y] [] pos) (tD X.K λb=>(fa b>>=λx=>z4y x.2>>=λp=>Res.ok (x.1,p))>>=λw=>aggD f w.2.1 w.2.2>>=λd=>.ok (gJ d (if imms w.2.2 then .fr else agG w.1),d)):=
 PE.imp (zh hc hm c (jR g rK hs) (by simp[hs]) h hn a) λi H Q ⟨b,F,z,so,e,q⟩=>zi5 so e q
end
structure NoKeys (T id:String):Prop where
 own:PySem.Slot T "__getattribute__" id
 entry:entryFor table id=some Builtin.«object.__getattribute__»
 two:∀a b:Value,argsOk id {pos:=[a,b]}
 rest:typeLookup (.type T) "__getattr__"=pure Z8
 miss:∀(a:Addr) (xs:Array Value) (k:Nat) (sl:Array (Option Value)) (u:Tok),Meets (Builtin.«object.__getattribute__» {pos:=[.ref a,.str "keys" u]}) λA R s=>s.heap.get? a=some {cls:=.type T,data:=.seq xs k,slots:=sl}/\raisesAttr (.ref a) "keys" A R s
theorem Pd:NoKeys "list" "list.__getattribute__" where
 own:=F.slot_list_getattribute
 entry:=am_entry_list_getattribute
 two:=F.args_list_getattribute_2
 rest:=am_list_getattr_none
 miss:=λa b k sl u=>meets_getattribute_miss_list a b k sl "keys" u (by rw[typeLookup_type];kernel_rfl) (by decide) (by size_fits)
theorem Pe:NoKeys "tuple" "tuple.__getattribute__" where
 own:=F.slot_tuple_getattribute
 entry:=am_entry_tuple_getattribute
 two:=F.args_tuple_getattribute_2
 rest:=am_tuple_getattr_none
 miss:=λa b k sl u=>meets_getattribute_miss_tuple a b k sl "keys" u (by rw[typeLookup_type];kernel_rfl) dc (by size_fits)
theorem NoKeys.ask {T id:String}(N:NoKeys T id){prog:bu}{w:World}{A:fq}{E:Value->ak->Prop}{s:ak}{a:Addr}{o:Obj}{i:Array Value}{k:Nat}{Q:Option Value->ak->Prop}
  (j:s.heap.get? a=Z9 o) (hc:o.cls=.type T) (d:o.data=.seq i k) (hd:o.dict=Z8) (m:A.handled=Z8)
  (h:∀l n e,sx s.heap l e "AttributeError"->Q Z8 {s with heap:=l,toks:=n}):
  wpAny (model prog w) A (uh (.ref a) "keys") Q E s:=by
 cases o;cases hc;cases d;cases hd;cases s;rename_i b heap f c toks os;have ty:∀t,(⟨heap,f,c,t,os⟩:ak).TypeIs (.ref a) T:=λt=>⟨_,j,rfl⟩;have p:=sub_AttributeError;have n1:=N.own.lookup;have n2:=N.own.bind (.ref a);have n3:=N.rest
 delta uh getAttrBy? getAttrBy
 repeat' (first|assumption|exact ty _|(apply u7 N.own (ty _) N.entry (N.two _ _) (N.miss a i k b _))|wp_step)
 refine⟨j,m,λq r ex nx=>?_⟩;obtain⟨u,v,there⟩:=nx.there;have g:=λt=>h _ t _ nx.of
 dsimp only[wants]
 delta getattributeRaised
 repeat' (first|assumption|apply g|wp_step)
theorem Pf
 (d:s.heap.get? a=Z9 o) (hc:o.cls=.type "list") (b:o.data=.seq i k) (hd:o.dict=Z8) (f:A.handled=Z8) (h:∀c g e,sx s.heap c e "AttributeError"->Q Z8 {s with heap:=c,toks:=g}):
 wpAny (model prog w) A (uh (.ref a) "keys") Q E s:=Pd.ask d hc b hd f h
theorem Pg
 (d:s.heap.get? a=Z9 o) (hc:o.cls=.type "tuple") (b:o.data=.seq i k) (hd:o.dict=Z8) (f:A.handled=Z8) (h:∀c g e,sx s.heap c e "AttributeError"->Q Z8 {s with heap:=c,toks:=g}):
 wpAny (model prog w) A (uh (.ref a) "keys") Q E s:=Pe.ask d hc b hd f h
abbrev uY (X:Cx)(A:fq)(E:Value->ak->Prop):Cx:={X with A:=A,xe:=E}
theorem _root_.L2.Inv.uY (I:Inv X a b H s)(hd:A.handled=X.A.handled)(hf:A.frames=X.A.frames):Inv (uY X A E) a b H s:=⟨⟨I.ok.mod,I.ok.kind,I.ok.glob,I.ok.blt,I.ok.above,I.ok.inj,I.ok.has,I.ok.pY,λz=>hd.trans (I.ok.hd z),hf.trans I.ok.frames,I.ok.rC,I.ok.rD,I.ok.bs,I.ok.iL,I.ok.gT,I.ok.gU,I.ok.cN,I.ok.nD,I.ok.y2⟩,I.os,I.bare,I.base,I.loc,I.cell,I.free,I.bE,I.pin,I.hok,I.len,I.fx⟩
theorem _root_.L2.Inv.Dk (ok:X.Ok)(I:Inv (uY X A E) a b H s):Inv X a b H s:=⟨ok,I.os,I.bare,I.base,I.loc,I.cell,I.free,I.bE,I.pin,I.hok,I.len,I.fx⟩
namespace F
theorem entry_dict_loop:entryFor table "dict.update.loop"=some Builtin.«dict.update.loop»:=entryFor_of_tree (by kernel_rfl)
theorem aP:plainId "dict.update.loop"=true:=by decide+kernel
end F
section
variable {X:Cx}{pins:List (Addr×Obj)}{σ:L2.St}
theorem Ph (p:IsTup s.heap a b.toArray)(h:Q b s):wpAny (model prog w) A (Builtin.Dict.pairItems (.ref a)) Q E s:=by have c:=p.typeIs;obtain⟨o,d,hc,n,hd⟩:=p;apply aa;refine m8 c ?_;apply aa;refine wpAny_seqItems d hd ?_;apply av;simpa using h
theorem zs6 (hc:X.calm=Z7)(hA:X.A=A.in1)(T:Turn X.prog X.w X.K (.Name x0 p0) J fp it tn)(P:Walk X.K J B H1 p)(V:¬B (Z9 d)):
  ∀n i s H kvs (es:cR) t W,p.length-i=n->i<=p.length->Inv X c Y H s->tn i s.heap->(∀b∈fp,FpOk X c H b)->H d=Z9 (.dK kvs)->kvs.length<=i->bC X.K H B kvs es->jT es (p.drop i)=Z9 Z->Kp B H1 H->
   (∀Q C f,Inv X c Y C Q->C d=Z9 (.dK f)->bC X.K C B f Z->(∀a o,a≠d->H a=Z9 o->C a=Z9 o)->R (.ok (.ret .none)) Q)->
   l8 (model X.prog X.w) A (.builtin "dict.update.loop" ⟨[.ref d,.ref it,.int W t,.none],[]⟩) R s:=by
 intro n
 induction n with
 |zero=>
  intro i s H kvs es t W hn hi I st fo hd hl rs l kp hR;have e:i=p.length:=by omega
  subst e;refine ku F.entry_dict_loop ?_;rw[Around.under_plainId F.aP _,<-hA];refine aa (aI (T.done X rfl rfl rfl hc _ c s Y H _ I fo st (P.stop H kp)) λr S D=>?_);obtain⟨rfl,I1⟩:=D;rw[pc]at l;cases l;exact aa (av (av (hR S H kvs I1 hd rs λ_ _ _ e=>e)))
 |succ n ih=>
  intro i s H kvs es t W hn hi I st fo hd hl rs l kp hR;have g:i<p.length:=by omega
  refine ku F.entry_dict_loop ?_;rw[Around.under_plainId F.aP _,<-hA];refine aa (aI (T.item X rfl rfl rfl hc i c s Y H _ I fo st (P.go H kp i g)) λr S D=>?_);obtain⟨u,rfl,h4⟩:=D;have key:∀(m:Sem PySem.Fin) Q' E',wpAny (model X.prog X.w) X.A (mq (.Name x0 p0) (.ref it) u>>=λ_=>m) Q' E' S->wpAny (model X.prog X.w) X.A m Q' E' S:=λm Q' E' h=>h;refine key _ _ _ (aa (aI h4 λ_ s5 D=>?_));obtain⟨x,U,I5,r5,y5,v,Cb⟩:=D;obtain⟨sm,di,E,rx⟩:=P.jO H kp i x U g y5;have ed:p.drop i=di::p.drop (i+1):=by rw[gb g];rw[au g]at E;cases E;rfl
  rw[ed]at l;unfold jT at l;split at l
  case h_2=>cases l
  rename_i kd vd;split at l
  case isFalse=>cases l
  rename_i hk;obtain⟨a,vs,rfl,sq,Pj⟩:=rx;obtain⟨vk,G,rfl,rk,rv⟩:=CY Pj;cases r5;obtain⟨its,L,pt,_⟩:=I5.tuple sq;obtain⟨uk,uv,rfl,Pk,Pl⟩:=vals2 L;have M:=I5.pinned (λb j=>⟨Cb b j,(fo b j).2⟩) (T.obj _ _ v);have y:=sm _ _ hd;obtain⟨k,rfl,rfl,ok⟩:=xl hk rk;obtain⟨z,Pm,dF,rel,dd⟩:=zd M.hok y;have dG:dF.length<=bf:=rel.length▸z;have hz:=P.len;have oU:(putK kvs k G).length<=i+1:=by have:=GQ kvs k G;omega
  refine aa (dw (aa (wpAny_tryCatch (Ph pt ?_))));refine dw (wpAny_dictSet_pairs (uL Pk) dd λh' N hs=>?_);have I6:=zb0 (t':=s5.toks+1) M (y▸True.intro) hs (let⟨q,_,_,hq,_⟩:=N;⟨q,hq⟩) (GR (by omega) Pm (rel.put k Pl) N)
  have O:Kp B U (upd U d (.dK (putK kvs k G))):=λb o e z=>by
   have:b≠d:=by
    rintro rfl
    rcases z with z|z
    .exact V z
    .rw[y]at e;cases e;exact z
   rw[aO this];exact e
  refine av ⟨sy F.aP _,?_⟩;refine ih (i+1) _ (upd U d (.dK (putK kvs k G))) (putK kvs k G) (dput es (kD k) vd) _ _ (by omega) g I6.cE ?_ ?_ cK oU ?_ l ?_ ?_
  .exact T.keep _ _ _ v λb j o e=>(I6.pin (b,o) (ax _ (ax _ (uK j e)))).1
  .intro b j;obtain⟨o,e,_⟩:=T.obj _ _ v b j;exact⟨(I6.pin (b,o) (ax _ (ax _ (uK j e)))).2.1,(fo b j).2⟩
  .exact bC.keep O (λ_ z=>z) _ (bC.put ok rv (rs.same sm λ_ z=>z))
  .exact λb o e z=>O b o (sm b o (kp b o e z)) z
  .intro Q C f I' uM Pn ext;refine hR Q C f I' uM Pn λb o j e=>ext b o j ?_;rw[aO j];exact sm b o e
theorem Po {K:Z5}(s:Same H b)(h:SqL K H a c):SqL K b a c:=by
 rcases h with(h|⟨o,h⟩)|h
 .exact .inl (.inl (s _ _ h))
 .exact .inl (.inr ⟨o,s _ _ h⟩)
 .exact .inr h
theorem Pp (es:cR)(k v:D)(a:cG es=Z7)(h:imm v=Z7):cG (es++[(k,v)])=true:=by
 unfold cG at *
 rw[List.all_append,a];simp[h]
theorem Pq (k v:D)(a:imm v=Z7)(es:cR)(h:cG es=Z7):cG (es.map λe=>if eqK e.1 k then(e.1,v)else e)=true:=by
 unfold cG at *
 rw[bb]at *
 intro e b;obtain⟨c,d,rfl⟩:=bx.mp b;split
 .exact a
 .exact h c d
theorem HM:∀(b:List D) es a,imms b=Z7->cG es=Z7->jT es b=Z9 a->cG a=Z7
 | [],es,a,_,h,e=>by cases e;exact h
 |y::b,es,a,c,d,e=>by
  simp only[imms,a6]at c;unfold jT at e;split at e
  case h_2=>cases e
  rename_i k v;split at e
  case isFalse=>cases e
  have f:imm v=true:=by have:=c.1;change(imm k&&(imm v&&Z7))=Z7 at this;simp only[a6]at this;exact this.2.1
  refine HM b _ a c.2 ?_ e;unfold dput;split
  .exact Pq k v f es d
  .exact Pp es k v d f
theorem Pr (hc:X.calm=Z7):CallR X (.type "dict") (rAgg X.K "dict"):=by
 rintro c s U H xs us Q I r ⟨B,x,dx,l,p,d,rfl,rx,e,G,q⟩
 obtain⟨a,vs,rfl,L,rs⟩:=sG rx e
 have e3:∃f,jT [] p=Z9 f/\d=.dict f:=by
  simp only[aggD,show("dict":String)≠"list" by decide,show("dict":String)≠"tuple" by decide,show("dict":String)≠"sorted" by decide,show("dict":String)≠"sum" by decide,show("dict":String)≠"all" by decide,show("dict":String)≠"any" by decide,if_true,if_false]at G;cases h:jT [] p with
  |none=>rw[h]at G;cases G
  |some es=>rw[h]at G;cases G;simp_all
 obtain⟨f,em,rfl⟩:=e3;have ew:z4z dx=.ok p:=by cases dx<;>first|(cases e;done)|(cases e;rfl)
 obtain⟨u,rfl,rfl⟩:=vals1 r;have t:=I.hok.fresh (ah _);have V:Inv X c U (upd H s.heap.objs.size (.dK [])) {s with heap:=s.heap.push {cls:=.type "dict",data:=.dict #[]}}:=I.laid (λ_ _ q=>af _ q) (ah _) (GU s.heap I.big);refine callType_codes (Q₁:=λobj j=>obj=.ref s.heap.objs.size/\j={s with heap:=s.heap.push {cls:=.type "dict",data:=.dict #[]}}) PySem.F.kt_called_dict (PySem.F.kt_typeCall_dict_1 _) PySem.F.entry_dict_init (kt_code_dict_new _ ⟨rfl,rfl⟩) ?_
 rintro obj j ⟨rfl,rfl⟩
 have k:(⟨s.heap.push {cls:=.type "dict",data:=.dict #[]},s.gens,s.drawn,s.toks,s.os⟩:ak).TypeIs (.ref s.heap.objs.size) "dict":=⟨_,b6 _ rfl,rfl⟩;refine⟨k,PySem.F.args_dict_init_2 _ _,?_⟩
 delta Builtin.«dict.__init__»
 refine aa ?_
 delta Builtin.Dict.selfAndRest
 refine aa (wpAny_notOrdered_dict k ?_);refine av ?_;show wpAny _ _ (ph "dict.__init__" s.heap.objs.size (.ref a) [] .none) _ _ _
 delta ph
 have rest:∀m v,(∀b o,(s.heap.push {cls:=.type "dict",data:=.dict #[]}).get? b=Z9 o->m.get? b=Z9 o)->wpAny (model X.prog X.w) X.A.in1.in1 (vf (.ref a)) (λi M=>l8 (model X.prog X.w) X.A.in1 (.builtin "dict.update.loop" ⟨[.ref s.heap.objs.size,i,qm 0,.none],[]⟩) (wants (λr N=>r=.none/\EP X c U Q (.ref s.heap.objs.size) N) X.xe) M) (λ_ _=>False) ⟨m,s.gens,s.drawn,v,s.os⟩:=by
  intro m v kp;have I2:Inv (uY X X.A.in1.in1 (λ_ _=>False)) c U (upd H s.heap.objs.size (.dK [])) ⟨m,s.gens,s.drawn,v,s.os⟩:=(V.kept kp).uY rfl rfl;refine aI (z3w (tg:=.Name "" default) (R:=λJ y=>Walk X.K J (λa=>B a/\¬nw H a) y p/\y=upd H s.heap.objs.size (.dK [])) I2 (show RelV (.ref a) (.ref a)from rfl) ((Rep.there _ rx).same (Same.upd t) λ_ z=>z) ew λJ W=>⟨W,rfl⟩) λi M zz=>?_;obtain⟨it,fp,tn,J,y,Y,I3,T,st,fo,W,eH⟩:=zz;subst Y eH;refine zs6 (X:=uY X X.A.in1.in1 (λ_ _=>False)) hc rfl T W (λz=>z.2 t) p.length 0 M _ [] [] _ _ (by omega) (by omega) I3 st fo cK (ah _) rfl em (λ_ _ e _=>e) ?_;intro s' y O I' Z P ext;refine⟨rfl,.ref s.heap.objs.size,y,I'.Dk I.ok,rfl,q _ y (λb o e=>ext b o (eC e t) (aO (eC e t)▸e)) ⟨_,O,rfl,Z,.inl t,?_⟩⟩;cases hi:imms p with
  |true=>exact bC.immB f (HM p [] f hi rfl em) P
  |false=>exact P.same (Same.refl y) λ_ z=>.inr ⟨rfl,z.1⟩
 have hA:=I.ok.hd hc;cases l with
 |true=>obtain⟨its,_,⟨o,n,S,g,C,D⟩,_⟩:=V.list (Po (Same.upd t) L);refine aa (m8 ⟨o,S,g⟩ ?_);refine aa (Pf S g D C hA λm v e hx=>?_);refine aa (ip (aa (gk (rest m v hx.keeps) (λi M E=>?_) λ_ _ z=>z.elim)));exact av ⟨sy F.aP _,E⟩
 |false=>obtain⟨its,_,⟨o,n,S,g,C,D⟩,_⟩:=V.lG (cL.rel (Same.upd t) L);refine aa (m8 ⟨o,S,g⟩ ?_);refine aa (Pg S g D C hA λm v e hx=>?_);refine aa (ip (aa (gk (rest m v hx.keeps) (λi M E=>?_) λ_ _ z=>z.elim)));exact av ⟨sy F.aP _,E⟩
end
open PySem.W
def runT {α:Type}(lt:Nat->Nat->Bool):KasT α->α
 |.ret a=>a
 |.ask i j k=>runT lt (k (lt i j))
theorem uZ {a b:Type}(lt:Nat->Nat->Bool)(f:a->KasT b):∀t,runT lt (t.bind f)=runT lt (f (runT lt t))
 |.ret _=>rfl
 |.ask i j k=>uZ lt f (k (lt i j))
section
variable (key:Nat->Nat)
abbrev ltk:Nat->Nat->Bool:=λi j=>decide (key i<key j)
def Kp' (p:Array Nat)(i:Nat):Nat:=key (p.getD i 0)
variable {key}
theorem xq (h:p[i]?=q[j]?):Kp' key p i=Kp' key q j:=by unfold Kp';rw[eu,eu,h]
theorem qL (b:j<=p.size)(k:Nat):Kp' key (kas_rev p i j) k=if i<=k/\k<j then Kp' key p (i+j-1-k)else Kp' key p k:=by
 have h:=getElem?_mirror_all (i:=i) b k;split
 .rename_i a;refine xq ?_;unfold kas_rev;rw[h,vh a]
 .rename_i a;refine xq ?_;unfold kas_rev;rw[h,vm a]
theorem xr (hs:a<p.size)(hd:d<=a)(k:Nat):Kp' key (u8 p a d) k=if k=a-d then Kp' key p a else if a-d<k/\k<=a then Kp' key p (k-1)else Kp' key p k:=by
 have h:=getElem?_bubble hs d hd k;split
 .rename_i c;exact xq (by rw[h,vh c])
 .rename_i c;split
  .rename_i b;exact xq (by rw[h,vm c,vh b])
  .rename_i b;exact xq (by rw[h,vm c,vm b])
theorem xu (p:Array Nat)(i j:Nat):(kas_rev p i j).size=p.size:=mirror_size _ _ _ _
theorem vv (p:Array Nat)(i j:Nat):(kas_rev p i j).Perm p:=mirror_perm _ _ _ _
theorem z5k (p:Array Nat):∀f n,1<=n->n<=runT (ltk key) (kas_asc p f n)/\runT (ltk key) (kas_asc p f n)<=n+f/\(∀i,n<=i->i<runT (ltk key) (kas_asc p f n)->Kp' key p (i-1)<=Kp' key p i)/\
  (runT (ltk key) (kas_asc p f n)<n+f->Kp' key p (runT (ltk key) (kas_asc p f n))<Kp' key p (runT (ltk key) (kas_asc p f n)-1))
 |0,n,h=>⟨ah _,ah _,λi b a=>absurd (ky b a) (cj _),λa=>absurd a (cj _)⟩
 |f+1,n,h=>by
  have e:runT (ltk key) (kas_asc p (f+1) n)=runT (ltk key) (if decide (Kp' key p n<Kp' key p (n-1))=Z7 then .ret n else kas_asc p f (n+1)):=rfl;rw[e];by_cases c:Kp' key p n<Kp' key p (n-1)
  .rw[vh (vq c)];exact⟨ah _,Nat.le_add_right _ _,λi b a=>absurd (ky b a) (cj _),λ_=>c⟩
  .rw[vm (by simpa using c)];obtain⟨k,l,d,g⟩:=z5k p f (n+1) (by omega);refine⟨by omega,by omega,λi b a=>?_,λa=>g (by omega)⟩;by_cases j:i=n
   .subst j;omega
   .exact d i (by omega) a
structure DPre (key:Nat->Nat)(p:Array Nat)(n q:Nat):Prop where
 one:1<=n
 qn:q+1<=n
 sz:n<=p.size
 de:∀i,1<=i->i<n->Kp' key p i<=Kp' key p (i-1)
 eq:∀i,n<=i+1+q->i<n->Kp' key p i=Kp' key p (n-1)
theorem DPre.rev (h:DPre key p n q)(k:Nat):Kp' key (kas_rev p (n-(q+1)) n) k=Kp' key p k:=by
 rw[qL h.sz];split
 .rename_i a;rw[h.eq k (by omega) a.2,h.eq _ (by omega) (by omega)]
 .rfl
theorem z2s:∀f p n q,DPre key p n q->n+f<=p.size->
  DPre key (runT (ltk key) (kas_desc f p n q)).1 (runT (ltk key) (kas_desc f p n q)).2.1 (runT (ltk key) (kas_desc f p n q)).2.2/\(runT (ltk key) (kas_desc f p n q)).1.Perm p/\(runT (ltk key) (kas_desc f p n q)).2.1<=n+f
 |0,p,n,q,h,s=>⟨h,Array.Perm.refl _,ah _⟩
 |f+1,p,n,q,h,s=>by
  have e:runT (ltk key) (kas_desc (f+1) p n q)=runT (ltk key) (if decide (Kp' key p n<Kp' key p (n-1))=Z7 then(if q>0 then kas_desc f (kas_rev p (n-(q+1)) n) (n+1) 0 else kas_desc f p (n+1) 0) else .ask (p.getD (n-1) 0) (p.getD n 0) λd=>if d=Z7 then .ret (p,n,q)else kas_desc f p (n+1) (q+1)):=rfl;rw[e];by_cases m:Kp' key p n<Kp' key p (n-1)
  .rw[vh (vq m)];by_cases o:q>0
   .rw[vh o]
    have c:DPre key (kas_rev p (n-(q+1)) n) (n+1) 0:=⟨by omega,by omega,by rw[xu];omega,λi a g=>by
     rw[h.rev,h.rev];by_cases b:i=n
     .subst b;omega
     .exact h.de i a (by omega),λi a g=>by
     have:i=n:=by omega
     subst this;rfl⟩
    obtain⟨j,k,r⟩:=z2s f _ (n+1) 0 c (by rw[xu];omega);exact⟨j,k.trans (vv _ _ _),by omega⟩
   .rw[vm o]
    have c:DPre key p (n+1) 0:=⟨by omega,by omega,by omega,λi a g=>by
     by_cases b:i=n
     .subst b;omega
     .exact h.de i a (by omega),λi a g=>by
     have:i=n:=by omega
     subst this;rfl⟩
    obtain⟨j,k,r⟩:=z2s f _ (n+1) 0 c (by omega);exact⟨j,k,by omega⟩
  .rw[vm (by simpa using m)];have t:runT (ltk key) (KasT.ask (p.getD (n-1) 0) (p.getD n 0) λd=>if d=Z7 then .ret (p,n,q)else kas_desc f p (n+1) (q+1))=runT (ltk key) (if decide (Kp' key p (n-1)<Kp' key p n)=Z7 then .ret (p,n,q)else kas_desc f p (n+1) (q+1)):=rfl;rw[t];by_cases l:Kp' key p (n-1)<Kp' key p n
   .rw[vh (vq l)];exact⟨h,Array.Perm.refl _,by show n<=_;omega⟩
   .rw[vm (by simpa using l)]
    have c:DPre key p (n+1) (q+1):=⟨by omega,by have :=h.qn;omega,by omega,λi a g=>by
     by_cases b:i=n
     .subst b;omega
     .exact h.de i a (by omega),λi a g=>by
     by_cases b:i=n
     .subst b;rfl
     .have :=h.eq i (by omega) (by omega);rw[Nat.add_sub_cancel];omega⟩
    obtain⟨j,k,r⟩:=z2s f _ (n+1) (q+1) c (by omega);exact⟨j,k,by omega⟩
def Asc (key:Nat->Nat)(p:Array Nat)(m:Nat):Prop:=∀i,1<=i->i<m->Kp' key p (i-1)<=Kp' key p i
theorem z51 (a:1<=n)(hn:n<=nrem)(c:nrem<=p.size)(de:∀i,1<=i->i<n->Kp' key p i<=Kp' key p (i-1)):
  Asc key (runT (ltk key) (kas_tail3 n nrem p)).2 (runT (ltk key) (kas_tail3 n nrem p)).1/\(runT (ltk key) (kas_tail3 n nrem p)).2.Perm p/\1<=(runT (ltk key) (kas_tail3 n nrem p)).1/\(runT (ltk key) (kas_tail3 n nrem p)).1<=nrem:=by
 unfold kas_tail3;rw[uZ];obtain⟨a1,a2,a3,_⟩:=z5k (key:=key) (kas_rev p 0 n) (nrem-n) n a;refine⟨λi d b=>?_,vv _ _ _,by show 1<=runT _ _;omega,by show runT _ _<=_;omega⟩;by_cases f:i<n
 .show Kp' key (kas_rev p 0 n) (i-1)<=Kp' key (kas_rev p 0 n) i;rw[qL (by omega),qL (by omega),vh (by omega),vh (by omega)];have:=de (0+n-1-(i-1)) (by omega) (by omega);have e:0+n-1-(i-1)-1=0+n-1-i:=by omega
  rw[e]at this;exact this
 .exact a3 i (by omega) b
theorem descPart_spec (l:1<=n)(hn:n<nrem)(g:nrem<=p.size)(eq:∀i,i<n->Kp' key p i=Kp' key p (n-1))(lt:Kp' key p n<Kp' key p (n-1)):
  Asc key (runT (ltk key) (kas_descPart n nrem p)).2 (runT (ltk key) (kas_descPart n nrem p)).1/\(runT (ltk key) (kas_descPart n nrem p)).2.Perm p/\1<=(runT (ltk key) (kas_descPart n nrem p)).1/\(runT (ltk key) (kas_descPart n nrem p)).1<=nrem:=by
 unfold kas_descPart;rw[uZ]
 have h:DPre key p (n+1) 0:=⟨by omega,by omega,by omega,λi i1 d=>by
  by_cases k:i=n
  .subst k;omega
  .rw[eq i (by omega),eq (i-1) (by omega)];exact ah _,λi i1 d=>by
  have:i=n:=by omega
  subst this;rfl⟩
 obtain⟨b,c,r3⟩:=z2s (nrem-(n+1)) p (n+1) 0 h (by omega);generalize runT (ltk key) (kas_desc (nrem-(n+1)) p (n+1) 0)=r at b c r3 ⊢;have a:=c.size_eq;by_cases j:r.2.2>0
 .rw[vh j];obtain⟨t1,t2,e,f⟩:=z51 (p:=kas_rev r.1 (r.2.1-(r.2.2+1)) r.2.1) (nrem:=nrem) b.one (by omega) (by rw[xu,a];exact g) λi i1 d=>by rw[b.rev,b.rev];exact b.de i i1 d
  exact⟨t1,t2.trans ((vv _ _ _).trans c),e,f⟩
 .rw[vm j];obtain⟨t1,t2,e,f⟩:=z51 (nrem:=nrem) b.one (by omega) (a▸g) b.de;exact⟨t1,t2.trans c,e,f⟩
theorem Asc.le (h:Asc key p m):∀d i,i+d<m->Kp' key p i<=Kp' key p (i+d)
 |0,i,_=>ah _
 |d+1,i,hm=>by exact cc (Asc.le h d i (by omega)) (h (i+d+1) (by omega) (by omega))
theorem za5 (s:1<=a)(hz:a<=p.size):
  Asc key (runT (ltk key) (kas_count a p)).2 (runT (ltk key) (kas_count a p)).1/\(runT (ltk key) (kas_count a p)).2.Perm p/\1<=(runT (ltk key) (kas_count a p)).1/\(runT (ltk key) (kas_count a p)).1<=a:=by
 unfold kas_count;rw[uZ];obtain⟨a1,a2,a3,a4⟩:=z5k p (a-1) 1 (ah _);generalize runT (ltk key) (kas_asc p (a-1) 1)=n at a1 a2 a3 a4 ⊢;have b:Asc key p n:=a3;by_cases hn:n=a
 .rw[vh (by simpa using hn)];exact⟨b,Array.Perm.refl _,a1,by show n<=_;omega⟩
 .rw[vm (by simpa using hn)];have lt:=a4 (by omega);by_cases f:n>1
  .rw[vh f];have e:runT (ltk key) (KasT.ask (p.getD 0 0) (p.getD (n-1) 0) λc=>if c=Z7 then .ret (n,p)else kas_descPart n a (kas_rev p 0 n))=runT (ltk key) (if decide (Kp' key p 0<Kp' key p (n-1))=Z7 then .ret (n,p)else kas_descPart n a (kas_rev p 0 n)):=rfl;rw[e];by_cases g:Kp' key p 0<Kp' key p (n-1)
   .rw[vh (vq g)];exact⟨b,Array.Perm.refl _,a1,by show n<=_;omega⟩
   .rw[vm (by simpa using g)]
    have eq:∀i,i<n->Kp' key p i=Kp' key p (n-1):=λi hi=>by
     have h:=b.le i 0 (by omega);have j:=b.le (n-1-i) i (by omega);have k:0+i=i:=by omega
     have l:i+(n-1-i)=n-1:=by omega
     rw[k]at h;rw[l]at j;omega
    have Dl:∀i,i<n->Kp' key (kas_rev p 0 n) i=Kp' key p (n-1):=λi hi=>by rw[qL (by omega),vh (by omega)];exact eq _ (by omega)
    obtain⟨m,o,q,r⟩:=descPart_spec (p:=kas_rev p 0 n) (nrem:=a) (by omega) (by omega) (by rw[xu];exact hz) (λi hi=>by rw[Dl i hi,Dl (n-1) (by omega)]) (by rw[Dl (n-1) (by omega),qL (by omega),vm (by omega)];exact lt);exact⟨m,o.trans (vv _ _ _),q,r⟩
  .rw[vm f];have d:n=1:=by omega
   subst d
   exact descPart_spec (Nat.le_refl _) (by omega) hz (fun i hi=>by have :i=0:=by omega
                                                                   subst this;rfl) lt
theorem place_spec (b:Asc key p k):∀f l r,r-l<=f->l<=r->r<=k->(∀i,i<l->Kp' key p i<=Kp' key p k)->(∀i,r<=i->i<k->Kp' key p k<Kp' key p i)->
  runT (ltk key) (kas_place p k f l r)<=k/\(∀i,i<runT (ltk key) (kas_place p k f l r)->Kp' key p i<=Kp' key p k)/\(∀i,runT (ltk key) (kas_place p k f l r)<=i->i<k->Kp' key p k<Kp' key p i)
 |0,l,r,s,t,d,g,h=>by
  have:l=r:=by omega
  subst this;exact⟨d,g,h⟩
 |f+1,l,r,s,t,d,g,h=>by
  unfold kas_place;by_cases o:l ≥ r
  .rw[vh o];have:l=r:=by omega
   subst this;exact⟨d,g,h⟩
  .rw[vm o];have e:runT (ltk key) (KasT.ask (p.getD k 0) (p.getD ((l+r)/2) 0) λc=>if c=Z7 then kas_place p k f l ((l+r)/2)else kas_place p k f ((l+r)/2+1) r)=runT (ltk key) (if decide (Kp' key p k<Kp' key p ((l+r)/2))=Z7 then kas_place p k f l ((l+r)/2)else kas_place p k f ((l+r)/2+1) r):=rfl;rw[e];have a:l<=(l+r)/2:=by omega
   have j:(l+r)/2<r:=by omega
   generalize (l+r)/2=m at a j ⊢;by_cases q:Kp' key p k<Kp' key p m
   .rw[vh (vq q)];refine place_spec b f l m (by omega) a (by omega) g λi u v=>?_;have:=b.le (i-m) m (by omega);have n:m+(i-m)=i:=by omega
    rw[n]at this;omega
   .rw[vm (by simpa using q)];refine place_spec b f (m+1) r (by omega) (by omega) d (λi u=>?_) h;have:=b.le (m-i) i (by omega);have n:i+(m-i)=m:=by omega
    rw[n]at this;omega
theorem HN:∀f p k,Asc key p k->k+f<=p.size->Asc key (runT (ltk key) (kas_bin f p k)) (k+f)/\(runT (ltk key) (kas_bin f p k)).Perm p
 |0,p,k,a,n=>⟨a,Array.Perm.refl _⟩
 |f+1,p,k,a,n=>by
  unfold kas_bin;rw[uZ];obtain⟨o,d,g⟩:=place_spec a k 0 k (by omega) (e8 _) (ah _) (λi q=>absurd q (Nat.not_lt_zero _)) λi b h=>absurd (ky b h) (cj _);generalize runT (ltk key) (kas_place p k k 0 k)=l at o d g ⊢
  have r:Asc key (u8 p k (k-l)) (k+1):=λi b h=>by
   have e:k-(k-l)=l:=by omega
   rw[xr (by omega) (by omega),xr (by omega) (by omega),e];by_cases j:i=l
   .rw[vm (by omega),vm (by omega),vh j];exact d _ (by omega)
   .rw[vm j];by_cases c:i-1=l
    .rw[vh c,vh (by omega)];rw[c];exact lg (g l (ah _) (by omega))
    .rw[vm c];by_cases t:l<i
     .rw[vh (by omega),vh (by omega)];exact a (i-1) (by omega) (by omega)
     .rw[vm (by omega),vm (by omega)];exact a i b (by omega)
  obtain⟨m,s⟩:=HN f (u8 p k (k-l)) (k+1) r (by rw[bubble_size];omega);refine⟨?_,s.trans (qr _ _ _)⟩;have e:k+1+f=k+(f+1):=by omega
  rw[e]at m;exact m
theorem Dm (n:Nat)(f:1<=n):Asc key (runT (ltk key) (kas_sort n)) n/\(runT (ltk key) (kas_sort n)).Perm (lh (b9 n)):=by
 unfold kas_sort;rw[uZ];have a:(lh (b9 n)).size=n:=by simp
 obtain⟨b,c,g,i⟩:=za5 f (by rw[a];exact ah _);generalize runT (ltk key) (kas_count n (lh (b9 n)))=r at b c g i ⊢;have hr:r.2.size=n:=by rw[c.size_eq,a]
 by_cases h:r.1<n
 .rw[vh h];have e:max r.1 1=r.1:=by omega
  rw[e];obtain⟨d,j⟩:=HN (n-r.1) r.2 r.1 b (by omega);refine⟨?_,j.trans c⟩;have e:r.1+(n-r.1)=n:=by omega
  rw[e]at d;exact d
 .rw[vm h];have e:r.1=n:=by omega
  rw[e]at b;exact⟨b,c⟩
end
theorem z1e {h:Heap}(c:b≠a)(e:h.get? b=Z9 o):(h.update a f).get? b=Z9 o:=by rw[Heap.get?_update_ne _ _ _ _ c];exact e
theorem z6q {a:List Value}(x:s.heap.IsList l a.toArray)(y:a.length<2)
  (h:∀D m n,s.heap.objs.size<=D->(∀b o,s.heap.get? b=Z9 o->m.get? b=Z9 o)->m.get? D=Z9 (cr "list" a.toArray n)->Q (.ref D) {s with heap:=m}):wpAny (model prog w) A (call (.builtin "sorted") [.ref l]) Q E s:=by
 apply i6 qt p6 p7 (p8 _);apply aa;apply av;apply aa;refine collect_list x ?_ (by rw[fj];omega);apply aa;refine jg ?_ (by rw[fj];omega);have u:∀b o,s.heap.get? b=Z9 o->((s.heap.push (cr "list" #[] 0)).update s.heap.objs.size (Obj.mapSeq (· ++a.toArray))).get? b=Z9 o:=λb o e=>z1e (cz (bg e)) (af _ e);have k:s.heap.objs.size<=((s.heap.push (cr "list" #[] 0)).update s.heap.objs.size (Obj.mapSeq (· ++a.toArray))).objs.size:=by rw[pi,u9];omega
 generalize ((s.heap.push (cr "list" #[] 0)).update s.heap.objs.size (Obj.mapSeq (·++a.toArray)))=i at u k ⊢;have c:(i.push (cr "list" a.toArray 0)).get? i.objs.size=Z9 (cr "list" a.toArray 0):=b6 _ rfl;have j:∀b o,s.heap.get? b=Z9 o->b≠i.objs.size/\(i.push (cr "list" a.toArray 0)).get? b=Z9 o:=λb o e=>⟨cz (b7 (bg e) k),af _ (u b o e)⟩;generalize B:i.objs.size=D at c j k ⊢;generalize i.push (cr "list" a.toArray 0)=f at c j ⊢;apply aa;apply dw;refine kg qw ⟨_,c,rfl⟩ qb ?body (qx _);rw[qc];refine aa (m9 c rfl ?_);refine aa (j0 c rfl ?_);obtain⟨p,g⟩:∃p,(f.update D (Obj.mapSeq λ_=>(#[]:Array Value))).get? D=Z9 (cr "list" #[] p):=⟨_,ja c λ_=>#[]⟩;have q:∀b o,s.heap.get? b=Z9 o->b≠D/\(f.update D (Obj.mapSeq λ_=>(#[]:Array Value))).get? b=Z9 o:=λb o e=>⟨(j b o e).1,z1e (j b o e).1 (j b o e).2⟩;generalize (f.update D (Obj.mapSeq λ_=>(#[]:Array Value)))=r at g q ⊢;refine aa (me g rfl ?_);refine aa (qy ?_ (by rw[fj];simp;omega));apply aa;refine jg (dw ?_);have d:((r.push (cr "tuple" a.toArray 0)).push (cr "list" #[] 0)).get? D=Z9 (cr "list" #[] p):=af _ (af _ g);have t:∀b o,s.heap.get? b=Z9 o->b≠D/\((r.push (cr "tuple" a.toArray 0)).push (cr "list" #[] 0)).get? b=Z9 o:=λb o e=>⟨(q b o e).1,af _ (af _ (q b o e).2)⟩;generalize ((r.push (cr "tuple" a.toArray 0)).push (cr "list" #[] 0))=C at d t ⊢;have v:a.toArray.size<2:=by simpa using y
 rw[vh v,vh v];refine aa (av ?_);refine aa (av ?_);refine aa (me d rfl ?_);have z:(arrOf (SortSt.mk' general' (a.toArray.zip a.toArray) #[] 7 Z8)).map (·.2)=a.toArray:=by show(a.toArray.zip a.toArray).map (·.2)=a.toArray;simp;exact List.map_snd_zip (ah _)
 rw[z];refine aa (j0 d rfl ?_);simp only[if_false,cf,bne_self_eq_false];refine av ⟨_,rfl,av ⟨_,rfl,h D _ _ k (λb o e=>z1e (t b o e).1 (t b o e).2) (ja d λ_=>a.toArray)⟩⟩
def dB {α:Type}(n:Nat)(Q:α->Prop):KasT α->Prop
 |.ret a=>Q a
 |.ask i j k=>i<n/\j<n/\∀b,dB n Q (k b)
theorem dB.bind {c d:Type}{Q:c->Prop}{R:d->Prop}{f:c->KasT d}(e:∀a,Q a->dB n R (f a)):∀{t:KasT c},dB n Q t->dB n R (t.bind f)
 |.ret a,h=>e a h
 |.ask i j k,h=>⟨h.1,h.2.1,λb=>dB.bind e (h.2.2 b)⟩
theorem dB.ite [Decidable c] (d:dB n Q a)(e:dB n Q b):dB n Q (if c then a else b):=by
 split
 .exact d
 .exact e
def AllIn (n:Nat)(p:Array Nat):Prop:=0<n/\∀x∈p,x<n
theorem AllIn.get (h:AllIn n p)(i:Nat):p.getD i 0<n:=by
 rw[eu];cases e:p[i]? with
 |none=>exact h.1
 |some x=>exact h.2 x (Array.mem_of_getElem? e)
theorem AllIn.perm (h:AllIn n p)(a:q.Perm p):AllIn n q:=⟨h.1,λx hx=>h.2 x (a.mem_iff.mp hx)⟩
theorem AllIn.rev (h:AllIn n p)(i j:Nat):AllIn n (kas_rev p i j):=h.perm (vv _ _ _)
theorem Dp (h:AllIn n p):∀f m,dB n (λ_=>True) (kas_asc p f m)
 |0,m=>trivial
 |f+1,m=>⟨h.get _,h.get _,λb=>dB.ite trivial (Dp h f (m+1))⟩
theorem zE:∀f p m q,AllIn n p->dB n (λr=>AllIn n r.1) (kas_desc f p m q)
 |0,p,m,q,h=>h
 |f+1,p,m,q,h=>⟨h.get _,h.get _,λb=>dB.ite (dB.ite (zE f _ _ _ (h.rev _ _)) (zE f _ _ _ h)) ⟨h.get _,h.get _,λd=>dB.ite h (zE f _ _ _ h)⟩⟩
theorem HP (h:AllIn n p):dB n (λr=>AllIn n r.2) (kas_tail3 m r p):=by refine dB.bind (λa _=>?_) (Dp (h.rev _ _) _ _);exact h.rev _ _
theorem HQ (h:AllIn n p):dB n (λr=>AllIn n r.2) (kas_descPart m r p):=dB.bind (λa b=>dB.ite (HP (AllIn.rev b _ _)) (HP b)) (zE _ _ _ _ h)
theorem Pt (h:AllIn n p):dB n (λr=>AllIn n r.2) (kas_count r p):=by
 refine dB.bind (λm _=>?_) (Dp h _ _);split
 .exact h
 .split
  .refine⟨h.get _,h.get _,λc=>?_⟩;show dB n _ (if c=Z7 then _ else _);split
   .exact h
   .exact HQ (h.rev _ _)
  .exact HQ h
theorem Dq (h:AllIn n p)(k:Nat):∀f l r,dB n (λ_=>True) (kas_place p k f l r)
 |0,l,r=>trivial
 |f+1,l,r=>by exact dB.ite trivial ⟨h.get _,h.get _,λc=>dB.ite (Dq h k f _ _) (Dq h k f _ _)⟩
theorem HR:∀f p k,AllIn n p->dB n (λ_=>True) (kas_bin f p k)
 |0,p,k,h=>trivial
 |f+1,p,k,h=>dB.bind (λl _=>HR f _ _ (h.perm (qr _ _ _))) (Dq h k _ _ _)
theorem HS (h:0<n):dB n (λ_=>True) (kas_sort n):=by
 refine dB.bind (λr hr=>?_) (Pt ⟨h,λx hx=>by simpa using hx⟩);split
 .exact HR _ _ _ hr
 .exact trivial
theorem Dr {c:Type}{P:ak->Prop}(h:∀i j C s,i<n->j<n->P s->(∀b,P b->C (lt i j) b)->cmp i j C s){Q:c->ak->Prop}:∀t s,dB n (λ_=>True) t->P s->(∀b,P b->Q (runT lt t) b)->t.kasWp cmp Q s
 |.ret a,s,_,p,q=>q s p
 |.ask i j k,s,a,p,q=>h i j _ s a.1 a.2.1 p λb d=>Dr h (k (lt i j)) b (a.2.2 _) d q
structure OrdOn (p:D->Prop):Prop where
 fX:∀x,p x->bB x x=Z6
 tr:∀x y z,p x->p y->p z->bB x y=Z7->bB y z=Z7->bB x z=Z7
 hX:∀x y z,p x->p y->p z->bB x z=Z7->bB x y=Z7\/bB y z=Z7
 gM:∀x y,p x->p y->bB x y=Z6->bB y x=Z6->x=y
theorem kE (h:uP x=Z7):∃i,x=.int i:=by cases x<;>first|(cases h;done)|exact⟨_,rfl⟩
theorem jF (h:uQ x=Z7):∃i,x=.str i:=by cases x<;>first|(cases h;done)|exact⟨_,rfl⟩
theorem xv (a b:Int):bB (.int a) (.int b)=decide (a<b):=rfl
theorem Pu (a b:Str):bB (.str a) (.str b)=decide (a.cps.toList<b.cps.toList):=rfl
theorem oV:OrdOn (λx=>uP x=Z7) where
 fX:=λx h=>by obtain⟨i,rfl⟩:=kE h;rw[xv];simp
 tr:=λx y z hx a b c d=>by obtain⟨i,rfl⟩:=kE hx;obtain⟨j,rfl⟩:=kE a;obtain⟨k,rfl⟩:=kE b;rw[xv,decide_eq_true_eq]at *;omega
 hX:=λx y z hx a b h=>by
  obtain⟨i,rfl⟩:=kE hx;obtain⟨j,rfl⟩:=kE a;obtain⟨k,rfl⟩:=kE b;rw[xv,decide_eq_true_eq]at *
  rw[xv,decide_eq_true_eq];omega
 gM:=λx y hx a c d=>by
  obtain⟨i,rfl⟩:=kE hx;obtain⟨j,rfl⟩:=kE a;rw[xv,decide_eq_false_iff_not]at *
  rw[show i=j by omega]
theorem Pw {b:Str}(h:a.cps.toList=b.cps.toList):a=b:=by obtain⟨⟨l⟩⟩:=a;obtain⟨⟨m⟩⟩:=b;simp only at h;rw[h]
theorem oW:OrdOn (λx=>uQ x=Z7) where
 fX:=λx h=>by obtain⟨i,rfl⟩:=jF h;rw[Pu];simp_all
 tr:=λx y z hx a b c d=>by obtain⟨i,rfl⟩:=jF hx;obtain⟨j,rfl⟩:=jF a;obtain⟨k,rfl⟩:=jF b;exact strKind.trans _ _ _ c d
 hX:=λx y z hx a b h=>by obtain⟨i,rfl⟩:=jF hx;obtain⟨j,rfl⟩:=jF a;obtain⟨k,rfl⟩:=jF b;exact strKind.negTrans _ _ _ h
 gM:=λx y hx a c d=>by obtain⟨i,rfl⟩:=jF hx;obtain⟨j,rfl⟩:=jF a;rw[Pw (strKind.total _ _ c d)]
theorem oX (b:Bool):OrdOn (λx=>ofK b x=Z7):=by
 cases b with
 |true=>exact oV
 |false=>exact oW
theorem Ds (hx:ofK b x=Z7)(a:ofK b y=Z7):bT x y=Z7↔x=y:=by
 cases b with
 |true=>obtain⟨i,rfl⟩:=kE hx;obtain⟨j,rfl⟩:=kE a;show(i==j)=Z7↔_;rw[beq_iff_eq];exact⟨λh=>by rw[h],λh=>by cases h;rfl⟩
 |false=>obtain⟨i,rfl⟩:=jF hx;obtain⟨j,rfl⟩:=jF a;show(i==j)=Z7↔_;rw[beq_iff_eq];exact⟨λh=>by rw[h],λh=>by cases h;rfl⟩
theorem eU (h:cP (b::bs) a=Z7):∃x r,a=x::r/\ofK b x=Z7/\cP bs r=true:=by
 cases a with
 |nil=>cases h
 |cons x r=>simp only[cP,a6]at h;exact⟨x,r,rfl,h.1,h.2⟩
theorem fK (h:cP [] a=Z7):a=[]:=by
 cases a with
 |nil=>rfl
 |cons x r=>cases h
theorem sH (x y:D)(a b:List D):aD (x::a) (y::b)=if bT x y then aD a b else bB x y:=by simp only[aD]
theorem oY (hx:ofK b x=Z7)(a:ofK b y=Z7)(h:x=y):aD (x::c) (y::d)=aD c d:=by rw[sH,vh ((Ds hx a).mpr h)]
theorem jG (hx:ofK b x=Z7)(a:ofK b y=Z7)(h:x≠y):aD (x::c) (y::d)=bB x y:=by rw[sH,vm λz=>h ((Ds hx a).mp z)]
theorem zF:aD [] []=false:=by simp[aD]
theorem HU:∀bs a,cP bs a=Z7->aD a a=Z6
 | [],a,h=>by rw[fK h];exact zF
 |b::bs,a,h=>by obtain⟨x,r,rfl,c,d⟩:=eU h;rw[oY c c rfl];exact HU bs r d
theorem HV:∀bs e f g,cP bs e=Z7->cP bs f=Z7->cP bs g=Z7->aD e f=Z7->aD f g=Z7->aD e g=Z7
 | [],e,f,g,k,l,m,a,h=>by rw[fK k,fK l]at a;cases a
 |b::bs,e,f,g,k,l,m,a,h=>by
  obtain⟨x,e,rfl,hx,k⟩:=eU k;obtain⟨y,f,rfl,i,l⟩:=eU l;obtain⟨z,g,rfl,c,m⟩:=eU m;have O:=oX b;by_cases j:x=y
  .rw[oY hx i j]at a;by_cases d:y=z
   .rw[oY i c d]at h;rw[oY hx c (j.trans d)];exact HV bs e f g k l m a h
   .rw[jG i c d]at h;rw[jG hx c (j▸d),j];exact h
  .rw[jG hx i j]at a;by_cases d:y=z
   .rw[jG hx c (d▸j),<-d];exact a
   .rw[jG i c d]at h;have n:=O.tr x y z hx i c a h;rw[jG hx c (λq=>by subst q;rw[O.fX x hx]at n;cases n)];exact n
theorem HW:∀bs d f g,cP bs d=Z7->cP bs f=Z7->cP bs g=Z7->aD d g=Z7->aD d f=Z7\/aD f g=Z7
 | [],d,f,g,j,l,k,m=>by rw[fK j,fK k]at m;cases m
 |b::bs,d,f,g,j,l,k,e=>by
  obtain⟨x,d,rfl,hx,j⟩:=eU j;obtain⟨y,f,rfl,a,l⟩:=eU l;obtain⟨z,g,rfl,h,k⟩:=eU k;have O:=oX b;by_cases i:x=z
  .rw[oY hx h i]at e;by_cases c:x=y
   .rw[oY hx a c,oY a h (c.symm.trans i)];exact HW bs d f g j l k e
   .rw[jG hx a c,jG a h (λq=>c (i.trans q.symm)),<-i];cases m:bB x y with
    |true=>exact .inl rfl
    |false=>
     cases o:bB y x with
     |true=>exact .inr rfl
     |false=>exact(c (O.gM x y hx a m o)).elim
  .rw[jG hx h i]at e;by_cases c:x=y
   .rw[jG a h (λq=>i (c.trans q)),<-c];exact .inr e
   .rw[jG hx a c];by_cases n:y=z
    .rw[n];exact .inl e
    .rw[jG a h n];exact O.hX x y z hx a h e
theorem HX:∀bs a c,cP bs a=Z7->cP bs c=Z7->aD a c=Z6->aD c a=Z6->a=c
 | [],a,c,e,f,g,h=>by rw[fK e,fK f]
 |b::bs,a,c,e,f,g,h=>by
  obtain⟨x,a,rfl,hx,e⟩:=eU e;obtain⟨y,c,rfl,i,f⟩:=eU f;by_cases d:x=y
  .rw[oY hx i d]at g;rw[oY i hx d.symm]at h;rw[d,HX bs a c e f g h]
  .rw[jG hx i d]at g;rw[jG i hx (λq=>d q.symm)]at h;exact(d ((oX b).gM x y hx i g h)).elim
theorem kF (h:z2l bs x=Z7):∃a,x=.tuple a/\cP bs a=true:=by cases x<;>first|(cases h;done)|exact⟨_,rfl,h⟩
theorem Px (a b:List D):bB (.tuple a) (.tuple b)=aD a b:=rfl
theorem sI (bs:List Bool):OrdOn (λx=>z2l bs x=Z7) where
 fX:=λx h=>by obtain⟨i,rfl,h⟩:=kF h;rw[Px];exact HU bs i h
 tr:=λx y z hx a b c d=>by obtain⟨i,rfl,hx⟩:=kF hx;obtain⟨j,rfl,a⟩:=kF a;obtain⟨k,rfl,b⟩:=kF b;exact HV bs _ _ _ hx a b c d
 hX:=λx y z hx a b h=>by obtain⟨i,rfl,hx⟩:=kF hx;obtain⟨j,rfl,a⟩:=kF a;obtain⟨k,rfl,b⟩:=kF b;exact HW bs _ _ _ hx a b h
 gM:=λx y hx a c d=>by obtain⟨i,rfl,hx⟩:=kF hx;obtain⟨j,rfl,a⟩:=kF a;rw[HX bs _ _ hx a c d]
def kG (l:List D):Prop:=l.Pairwise λa b=>bB b a=Z6
theorem Dt (x:D):∀l,(dI x l).Perm (x::l)
 | []=>.refl _
 |y::l=>by
  unfold dI;split
  .exact((Dt x l).cons y).trans (.swap x y l)
  .exact .refl _
theorem zG:∀l,(z0r l).Perm l
 | []=>.refl _
 |x::l=>(Dt x (z0r l)).trans ((zG l).cons x)
section
variable {p:D->Prop}(O:OrdOn p)
include O
theorem OrdOn.Du (hx:p x)(a:p y)(h:bB x y=Z7):bB y x=false:=by
 cases e:bB y x with
 |false=>rfl
 |true=>have:=O.tr x y x hx a hx h e;rw[O.fX x hx]at this;cases this
theorem HY (x:D)(hx:p x):∀l,(∀y∈l,p y)->kG l->kG (dI x l)
 | [],_,_=>ij _ _
 |y::l,b,hs=>by
  have c:=b y (by simp);have hl:∀z∈l,p z:=λz a=>b z (by simp[a]);obtain⟨d,f⟩:=bn.mp hs;unfold dI;split
  .rename_i hc;refine bn.mpr ⟨λz a=>?_,HY x hx l hl f⟩;rcases ay.mp ((Dt x l).mem_iff.mp a)with rfl|a
   .exact O.Du c hx hc
   .exact d z a
  .rename_i hc;refine bn.mpr ⟨λz a=>?_,hs⟩;rcases(ay.mp a)with rfl|a
   .exact by simpa using hc
   .cases e:bB z x with
    |false=>rfl
    |true=>
     rcases O.hX z y x (hl z a) c hx e with q|q
     .rw[d z a]at q;cases q
     .exact(hc q).elim
theorem Dv:∀l,(∀y∈l,p y)->kG (z0r l)
 | [],_=>List.Pairwise.nil
 |x::l,a=>HY O x (a x (by simp)) _ (λz b=>a z (by simp[(zG l).mem_iff.mp b])) (Dv l λz b=>a z (by simp[b]))
theorem Dw:∀{a b:List D},(∀y∈a,p y)->a.Perm b->kG a->kG b->a=b
 | [],b,_,c,_,_=>(c.symm.eq_nil).symm
 |x::a,[],_,c,_,_=>by have:=c.length_eq;simp at this
 |x::a,y::b,d,c,ha,hb=>by
  obtain⟨g,a2⟩:=bn.mp ha;obtain⟨h,i⟩:=bn.mp hb;have hx:=d x (by simp);have f:=d y (c.mem_iff.mpr (by simp))
  have e:x=y:=by
   refine O.gM x y hx f ?_ ?_
   .rcases ay.mp (c.mem_iff.mp (show x∈x::a by simp))with q|q
    .rw[<-q];exact O.fX x hx
    .exact h x q
   .rcases ay.mp (c.mem_iff.mpr (show y∈y::b by simp))with q|q
    .rw[<-q];exact O.fX y f
    .exact g y q
  subst e;rw[Dw (λz j=>d z (by simp[j])) (List.perm_cons x |>.mp c) a2 i]
def rank (ds:List D)(i:Nat):Nat:=ds.countP λd=>bB d (ds.getD i .none)
omit O in
theorem HZ {q r:D->Bool}:∀(l:List D),(∀x∈l,q x=Z7->r x=Z7)->(∃x∈l,r x=Z7/\q x=Z6)->l.countP q<l.countP r
 | [],_,⟨_,h,_⟩=>by simp at h
 |x::l,h,⟨y,hy,h1,h2⟩=>by
  have hl:l.countP q<=l.countP r:=qf λz hz=>h z (by simp[hz]);rcases(ay.mp hy)with rfl|hy
  .rw[List.countP_cons_of_neg (by rw[h2];simp),List.countP_cons_of_pos h1];omega
  .have :=HZ l (λz hz=>h z (by simp[hz])) ⟨y,hy,h1,h2⟩;rw[iz,iz];have hx:=h x (by simp);cases e:q x with
   |true=>rw[hx e];simp;exact this
   |false=>simp;split<;>omega
theorem sJ (b:∀d∈a,p d)(f:i<a.length)(g:j<a.length):decide (rank a i<rank a j)=bB (a.getD i .none) (a.getD j .none):=by
 have l:a.getD i .none=a[i]:=by simp[f]
 have m:a.getD j .none=a[j]:=by simp[g]
 have c:=f0 f;have k:=f0 g;unfold rank;rw[l,m];cases e:bB a[i] a[j]with
 |true=>rw[decide_eq_true_eq];exact HZ a (λx hx h=>O.tr x _ _ (b x hx) (b _ c) (b _ k) h e) ⟨a[i],c,e,O.fX _ (b _ c)⟩
 |false=>
  rw[decide_eq_false_iff_not]
  have:a.countP (λd=>bB d a[j])<=a.countP λd=>bB d a[i]:=qf λx hx h=>by
   rcases O.hX x _ _ (b x hx) (b _ c) (b _ k) h with q|q
   .exact q
   .rw[e]at q;cases q
  omega
theorem Ia (g:∀d∈a,p d)(hn:1<=a.length):(runT (ltk (rank a)) (kas_sort a.length)).toList.map (λi=>a.getD i .none)=z0r a:=by
 obtain⟨h,f⟩:=Dm a.length hn;generalize runT (ltk (rank a)) (kas_sort a.length)=q at h f ⊢;have k:q.toList.Perm (b9 a.length):=by simpa using f.toList
 have b:q.size=a.length:=by rw[f.size_eq];simp
 have c:(q.toList.map λi=>a.getD i .none).Perm a:=by
  refine(k.map _).trans ?_
  have:(b9 a.length).map (λi=>a.getD i .none)=a:=by
   apply List.ext_getElem
   .simp
   .intro i h f;simp;rw[au (by simpa using f)];rfl
  rw[this]
 refine Dw O (λy r=>g y (c.mem_iff.mp r)) (c.trans (zG a).symm) ?_ (Dv O a g);unfold kG;rw[ik,d8];intro i j n o s;have l:i<a.length:=by rw[<-b];simpa using n
 have m:j<a.length:=by rw[<-b];simpa using o
 have le:=h.le (j-i) i (by omega);have e:i+(j-i)=j:=by omega
 rw[e]at le;have t:Kp' (rank a) q i=rank a q.toList[i]:=by unfold Kp';rw[eu];simp[b,l]
 have u:Kp' (rank a) q j=rank a q.toList[j]:=by unfold Kp';rw[eu];simp[b,m]
 rw[<-sJ O g (by simpa using k.mem_iff.mp (f0 o)) (by simpa using k.mem_iff.mp (f0 n)),decide_eq_false_iff_not];omega
end
def kX:Bool->Keyed->Array Keyed->Nat->Nat->Nat->StateT dm Sem (Option Nat):=sortPriv%PySem.Builtin.gallop
def oZ:Nat->StateT dm Sem Unit:=sortPriv%PySem.Builtin.setMinGallop
def zH:Array Keyed->Array Keyed->StateT dm Sem (Array Keyed):=sortPriv%PySem.Builtin.mergeLo
def zI:Array Keyed->Array Keyed->StateT dm Sem (Array Keyed):=sortPriv%PySem.Builtin.mergeHi
abbrev fY (st:dm)(g:Nat):dm:=SortSt.mk' (i7 st) (arrOf st) (du st) g (j7 st)
theorem zJ (g:Nat):oZ g=modify λs=>fY s g:=rfl
theorem Py (a b:Array Keyed):zH a b=(do
 rule "list.sort.merge-lo"
 let total:=a.size+b.size
 let done (out:Array Keyed) (ia ib:Nat):=out++a.extract ia a.size++b.extract ib b.size
 let eL (out:Array Keyed) (ia ib:Nat):=out++b.extract ib b.size++a.extract ia a.size
 let mut out:Array Keyed:=#[<-elem' b 0]
 let mut ia:=0
 let mut ib:=1
 if ib==b.size then return done out ia ib
 if ia+1==a.size then return eL out ia ib
 let mut minGallop:=va (<-get)
 for _ in[0:total] do
  let mut bG:=0
  let mut bH:=0
  for _ in[0:total] do
   let Z9 xw <-lt' (<-elem' b ib) (<-elem' a ia)|return done out ia ib
   if xw then
    out:=out.push (<-elem' b ib);ib:=ib+1;bH:=bH+1;bG:=0
    if ib==b.size then return done out ia ib
    if bH ≥ minGallop then break
   else
    out:=out.push (<-elem' a ia);ia:=ia+1;bG:=bG+1;bH:=0
    if ia+1==a.size then return eL out ia ib
    if bG ≥ minGallop then break
  rule "list.sort.gallop"
  minGallop:=minGallop+1
  for _ in[0:total] do
   if minGallop>1 then minGallop:=minGallop-1
   oZ minGallop
   let Z9 k <-kX Z6 (<-elem' b ib) a ia (a.size-ia) 0|return done out ia ib
   bG:=k
   if k>0 then
    out:=out++a.extract ia (ia+k);ia:=ia+k
    if ia+1==a.size then return eL out ia ib
    if ia==a.size then return done out ia ib
   out:=out.push (<-elem' b ib);ib:=ib+1
   if ib==b.size then return done out ia ib
   let Z9 k <-kX Z7 (<-elem' a ia) b ib (b.size-ib) 0|return done out ia ib
   bH:=k
   if k>0 then
    out:=out++b.extract ib (ib+k);ib:=ib+k
    if ib==b.size then return done out ia ib
   out:=out.push (<-elem' a ia);ia:=ia+1
   if ia+1==a.size then return eL out ia ib
   if bG<7&&bH<7 then break
  minGallop:=minGallop+1
  oZ minGallop
 om "internal:list.sort.merge-bound"):=rfl
def iU (left:Bool)(key:Keyed)(arr:Array Keyed)(base i:Nat):StateT dm Sem (Option Bool):=do
 let x <-elem' arr (base+i)
 if left then lt' x key else return (<-lt' key x).map (!·)
theorem Pz (left:Bool)(key:Keyed)(arr:Array Keyed)(base n hint:Nat):kX left key arr base n hint=(do
 let mut eM:=0
 let mut kY:=1
 let mut lo:=0
 let mut hi:=0
 let Z9 right <-iU left key arr base hint|return Z8
 if right then
  let eV:=n-hint
  for _ in[0:n] do
   if kY ≥ eV then break
   let Z9 more <-iU left key arr base (hint+kY)|return Z8
   if !more then break
   eM:=kY
   kY:=2*kY+1
  lo:=hint+eM+1
  hi:=hint+min kY eV
 else
  let eV:=hint+1
  for _ in[0:n] do
   if kY ≥ eV then break
   let Z9 found <-iU left key arr base (hint-kY)|return Z8
   if found then break
   eM:=kY
   kY:=2*kY+1
  lo:=hint+1-min kY eV
  hi:=hint-eM
 for _ in[0:n] do
  if lo ≥ hi then break
  let m:=lo+(hi-lo)/2
  let Z9 more <-iU left key arr base m|return Z8
  if more then lo:=m+1 else hi:=m
 return Z9 hi):=rfl
section
variable {prog:bu}{w:World}{A:fq}{E:Value->ak->Prop}{s:ak}{κ:mf}{it:Array Keyed}{n:Nat}{key:Nat->Nat}
def LtOk (prog:bu)(w:World)(A:fq)(E:Value->ak->Prop)(s:ak)(κ:mf)(it:Array Keyed)(n:Nat)(key:Nat->Nat):Prop:=∀i j,i<n->j<n->∀(Q:Option Bool->dm->Prop) (st:dm),i7 st=κ->Q (Z9 (decide (key i<key j))) st->wpS (model prog w) A E s (lt' (kas_item it i) (kas_item it j)) Q st
def ByB (key:Nat->Nat)(left:Bool)(k:Nat)(p:Array Nat)(i:Nat):Bool:=if left then decide (Kp' key p i<key k)else decide (Kp' key p i<=key k)
abbrev aQ (it:Array Keyed)(p:Array Nat):Array Keyed:=p.map (kas_item it)
theorem fZ {p:Array Nat}{i:Nat}(hi:i<p.size):elem' (aQ it p) i=pure (kas_item it (p.getD i 0)):=by
 rw[elem'_eq]
 have e:(aQ it p)[i]?=Z9 (kas_item it (p.getD i 0)):=by
  show(p.map (kas_item it))[i]?=_;have e:p.getD i 0=p[i]:=by simp[g8,hi]
  rw[e];simp[hi]
 rw[e]
theorem z8p (L:LtOk prog w A E s κ it n key){left:Bool}{k:Nat}(hk:k<n){p:Array Nat}(hp:AllIn n p){b i:Nat}(hi:b+i<p.size){st:dm}(hs:i7 st=κ){Q:Option Bool->dm->Prop}(h:Q (Z9 (ByB key left k p (b+i))) st):
  wpS (model prog w) A E s (iU left (kas_item it k) (aQ it p) b i) Q st:=by
 unfold iU;rw[fZ hi];refine a7 (az ?_);cases left with
 |true=>simp only[if_true];exact L _ _ (hp.get _) hk _ _ hs h
 |false=>
  simp only[cf,if_false];refine a7 (L _ _ hk (hp.get _) _ _ hs ?_);refine az ?_
  have e:(Z9 (decide (key k<key (p.getD (b+i) 0)))).map (!·)=Z9 (ByB key Z6 k p (b+i)):=by
   show Z9 (!decide _)=Z9 (decide _)
   congr 1
   rw[mv];simp only[j4,decide_eq_false_iff_not,decide_eq_true_iff];unfold Kp';omega
  rw[e];exact h
def xA (left:Bool)(key:Keyed)(arr:Array Keyed)(base n PB PC:Nat):StateT dm Sem (Option Nat):=do
 let mut lo:=PB
 let mut hi:=PC
 for _ in[0:n] do
  if lo ≥ hi then break
  let m:=lo+(hi-lo)/2
  let Z9 more <-iU left key arr base m|return Z8
  if more then lo:=m+1 else hi:=m
 return Z9 hi
theorem zi7 (L:LtOk prog w A E s κ it n key){left:Bool}{k:Nat}(hk:k<n){p:Array Nat}(hp:AllIn n p){b m:Nat}(hm:b+m<=p.size)
  (dn:∀i j,i<=j->j<m->ByB key left k p (b+j)=Z7->ByB key left k p (b+i)=Z7) {st:dm} (hs:i7 st=κ) {lo hi:Nat} (PD:lo<=hi) (PF:hi<=m)
  (h1:∀i,i<lo->ByB key left k p (b+i)=Z7) (h2:∀i,hi<=i->i<m->ByB key left k p (b+i)=Z6) {Q:Option Nat->dm->Prop}
  (h:∀r,r<=m->(∀i,i<r->ByB key left k p (b+i)=Z7)->(∀i,r<=i->i<m->ByB key left k p (b+i)=Z6)->Q (Z9 r) st):
  wpS (model prog w) A E s (xA left (kas_item it k) (aQ it p) b m lo hi) Q st:=by
 unfold xA;refine a7 (gc (fy (I:=λx c st'=>st'=st/\∃lo hi,c=(Z8,lo,hi)/\lo<=hi/\hi<=m/\hi-lo+x<=m/\(∀i,i<lo->ByB key left k p (b+i)=Z7)/\(∀i,hi<=i->i<m->ByB key left k p (b+i)=Z6)) (Q:=λc st'=>st'=st/\∃r,c=(Z8,r,r)/\r<=m/\(∀i,i<r->ByB key left k p (b+i)=Z7)/\(∀i,r<=i->i<m->ByB key left k p (b+i)=Z6)) ?_ ?_ ⟨rfl,lo,hi,rfl,PD,PF,by omega,h1,h2⟩) ?_)
 .rintro x c st' _ hx ⟨rfl,lo,hi,rfl,a1,a2,a3,a4,a5⟩
  dsimp only
  by_cases hc:lo ≥ hi
  .rw[vh hc];have:lo=hi:=by omega
   subst this;exact az ⟨rfl,lo,rfl,a2,a4,a5⟩
  .rw[vm hc];refine a7 (z8p L hk hp (by omega) hs ?_)
   dsimp only
   cases e1:ByB key left k p (b+(lo+(hi-lo)/2))with
   |true=>simp only[if_true];exact az ⟨rfl,_,_,rfl,by omega,a2,by omega,λi Vk=>dn i _ (by omega) (by omega) e1,a5⟩
   |false=>
    simp only[cf,if_false];refine az ⟨rfl,_,_,rfl,by omega,by omega,by omega,a4,λi h1 h2=>?_⟩;cases e:ByB key left k p (b+i)with
    |false=>rfl
    |true=>rw[dn _ i h1 h2 e]at e1;cases e1
 .rintro c st' ⟨rfl,lo,hi,rfl,a1,a2,a3,a4,a5⟩
  have:lo=hi:=by omega
  subst this;exact⟨rfl,lo,rfl,a2,a4,a5⟩
 .rintro c st' ⟨rfl,r,rfl,a1,a2,a3⟩
  exact az (h r a1 a2 a3)
theorem z2h (L:LtOk prog w A E s κ it n key){left:Bool}{k:Nat}(hk:k<n){p:Array Nat}(hp:AllIn n p){b m hint:Nat}(hm:b+m<=p.size)(hh:hint<m)
  (mono:∀i j,i<=j->j<m->Kp' key p (b+i)<=Kp' key p (b+j)) {st:dm} (hs:i7 st=κ) {Q:Option Nat->dm->Prop}
  (h:∀r,r<=m->(∀i,i<r->ByB key left k p (b+i)=Z7)->(∀i,r<=i->i<m->ByB key left k p (b+i)=Z6)->Q (Z9 r) st):
  wpS (model prog w) A E s (kX left (kas_item it k) (aQ it p) b m hint) Q st:=by
 have dn:∀i j,i<=j->j<m->ByB key left k p (b+j)=Z7->ByB key left k p (b+i)=true:=λi j cM hj hb=>by have:=mono i j cM hj;unfold ByB at hb ⊢;cases left<;>simp only[cf,if_false,if_true,decide_eq_true_iff]at hb ⊢<;>omega
 have Ib:∀i j,i<=j->j<m->ByB key left k p (b+i)=Z6->ByB key left k p (b+j)=false:=λi j cM hj hb=>by
  cases e:ByB key left k p (b+j)with
  |false=>rfl
  |true=>rw[dn i j cM hj e]at hb;cases hb
 rw[Pz];refine a7 (z8p L hk hp (by omega) hs ?_)
 dsimp only
 cases e0:ByB key left k p (b+hint)with
 |true=>
  simp only[if_true];refine a7 (gc (fy (I:=λx c st'=>st'=st/\∃la of,c=(Z8,la,of)/\x<of/\la<of/\hint+la<m/\ByB key left k p (b+(hint+la))=Z7) (Q:=λc st'=>st'=st/\∃la of,c=(Z8,la,of)/\la<of/\hint+la<m/\ByB key left k p (b+(hint+la))=Z7/\(m-hint<=of\/ByB key left k p (b+(hint+of))=Z6)) ?_ ?_ ⟨rfl,0,1,rfl,qz,qz,hh,e0⟩) ?_)
  .rintro x c st' _ hx ⟨rfl,la,of,rfl,h1,h2,h3,h4⟩
   dsimp only
   by_cases hc:of ≥ m-hint
   .rw[vh hc];exact az ⟨rfl,la,of,rfl,h2,h3,h4,.inl hc⟩
   .rw[vm hc];refine a7 (z8p L hk hp (by omega) hs ?_)
    dsimp only
    cases e1:ByB key left k p (b+(hint+of))with
    |false=>simp only[Bool.not_false,if_true];exact az ⟨rfl,la,of,rfl,h2,h3,h4,.inr e1⟩
    |true=>simp only[tf,cf,if_false];exact az ⟨rfl,of,2*of+1,rfl,by omega,by omega,by omega,e1⟩
  .rintro c st' ⟨rfl,la,of,rfl,h1,h2,h3,h4⟩
   exact⟨rfl,la,of,rfl,h2,h3,h4,.inl (by omega)⟩
  .rintro c st' ⟨rfl,la,of,rfl,h2,h3,h4,h5⟩
   dsimp only
   refine zi7 L hk hp hm dn hs (by omega) (by omega) (λi hi=>dn i (hint+la) (by omega) h3 h4) (λi hi him=>?_) h;rcases h5 with h5|h5
   .omega
   .by_cases hc:m-hint<=of
    .omega
    .exact Ib (hint+of) i (by omega) him h5
 |false=>
  simp only[cf,if_false];refine a7 (gc (fy (I:=λx c st'=>st'=st/\∃la of,c=(Z8,la,of)/\x<of/\la<of/\la<=hint/\ByB key left k p (b+(hint-la))=Z6) (Q:=λc st'=>st'=st/\∃la of,c=(Z8,la,of)/\la<of/\la<=hint/\ByB key left k p (b+(hint-la))=Z6/\(hint+1<=of\/ByB key left k p (b+(hint-of))=Z7)) ?_ ?_ ⟨rfl,0,1,rfl,qz,qz,e8 _,e0⟩) ?_)
  .rintro x c st' _ hx ⟨rfl,la,of,rfl,h1,h2,h3,h4⟩
   dsimp only
   by_cases hc:of ≥ hint+1
   .rw[vh hc];exact az ⟨rfl,la,of,rfl,h2,h3,h4,.inl hc⟩
   .rw[vm hc];refine a7 (z8p L hk hp (by omega) hs ?_)
    dsimp only
    cases e1:ByB key left k p (b+(hint-of))with
    |true=>simp only[if_true];exact az ⟨rfl,la,of,rfl,h2,h3,h4,.inr e1⟩
    |false=>simp only[cf,if_false];exact az ⟨rfl,of,2*of+1,rfl,by omega,by omega,by omega,e1⟩
  .rintro c st' ⟨rfl,la,of,rfl,h1,h2,h3,h4⟩
   exact⟨rfl,la,of,rfl,h2,h3,h4,.inl (by omega)⟩
  .rintro c st' ⟨rfl,la,of,rfl,h2,h3,h4,h5⟩
   dsimp only
   refine zi7 L hk hp hm dn hs (by omega) (by omega) (λi hi=>?_) (λi hi him=>Ib (hint-la) i (by omega) him h4) h;rcases h5 with h5|h5
   .omega
   .by_cases hc:hint+1<=of
    .omega
    .exact dn i (hint-of) (by omega) (by omega) h5
end
abbrev KA:=Array Keyed
abbrev SM:=StateT dm Sem
abbrev Dx:=Option KA×KA×Nat×Nat×Nat×Nat
abbrev vw:=Option KA×KA×Nat×Nat×Nat×Nat×Nat
def lZ (a b out:KA)(ia ib:Nat):KA:=out++a.extract ia a.size++b.extract ib b.size
def sM (a b out:KA)(ia ib:Nat):KA:=out++b.extract ib b.size++a.extract ia a.size
def zK (a b:KA)(mg:Nat)(out:KA)(ia ib ac bc:Nat):SM (ForInStep Dx):=do
 let x <-elem' b ib
 let y <-elem' a ia
 let z <-lt' x y
 match z with
 |some c=>
  if c then do
   let x <-elem' b ib
   if ib+1==b.size then pure (.done (Z9 (lZ a b (out.push x) ia (ib+1)),out.push x,ia,ib+1,0,bc+1))
   else if bc+1 ≥ mg then pure (.done (Z8,out.push x,ia,ib+1,0,bc+1))
   else pure (.yield (Z8,out.push x,ia,ib+1,0,bc+1))
  else do
   let x <-elem' a ia
   if ia+1+1==a.size then pure (.done (Z9 (sM a b (out.push x) (ia+1) ib),out.push x,ia+1,ib,ac+1,0))
   else if ac+1 ≥ mg then pure (.done (Z8,out.push x,ia+1,ib,ac+1,0))
   else pure (.yield (Z8,out.push x,ia+1,ib,ac+1,0))
 |_=>pure (.done (Z9 (lZ a b out ia ib),out,ia,ib,ac,bc))
def xB (a b:KA)(out:KA)(ia ib g k k1:Nat):SM (ForInStep vw):=do
 let x <-elem' a ia
 if ia+1+1==a.size then pure (.done (Z9 (sM a b (out.push x) (ia+1) ib),out.push x,ia+1,ib,g,k,k1))
 else if(decide (k<7)&&decide (k1<7))=Z7 then pure (.done (Z8,out.push x,ia+1,ib,g,k,k1))
 else pure (.yield (Z8,out.push x,ia+1,ib,g,k,k1))
def xE (a b:KA)(out:KA)(ia ib g k bc:Nat):SM (ForInStep vw):=do
 let x <-elem' b ib
 if ib+1==b.size then pure (.done (Z9 (lZ a b (out.push x) ia (ib+1)),out.push x,ia,ib+1,g,k,bc))
 else do
  let y <-elem' a ia
  let z <-kX Z7 y b (ib+1) (b.size-(ib+1)) 0
  match z with
  |some k1=>
   if k1>0 then
    if ib+1+k1==b.size then pure (.done (Z9 (lZ a b (out.push x++b.extract (ib+1) (ib+1+k1)) ia (ib+1+k1)),out.push x++b.extract (ib+1) (ib+1+k1),ia,ib+1+k1,g,k,k1))
    else xB a b (out.push x++b.extract (ib+1) (ib+1+k1)) ia (ib+1+k1) g k k1
   else xB a b (out.push x) ia (ib+1) g k k1
  |_=>pure (.done (Z9 (lZ a b (out.push x) ia (ib+1)),out.push x,ia,ib+1,g,k,bc))
def vx (a b:KA)(out:KA)(ia ib g ac bc:Nat):SM (ForInStep vw):=do
 oZ g
 let x <-elem' b ib
 let z <-kX Z6 x a ia (a.size-ia) 0
 match z with
 |some k=>
  if k>0 then
   if ia+k+1==a.size then pure (.done (Z9 (sM a b (out++a.extract ia (ia+k)) (ia+k) ib),out++a.extract ia (ia+k),ia+k,ib,g,k,bc))
   else if ia+k==a.size then pure (.done (Z9 (lZ a b (out++a.extract ia (ia+k)) (ia+k) ib),out++a.extract ia (ia+k),ia+k,ib,g,k,bc))
   else xE a b (out++a.extract ia (ia+k)) (ia+k) ib g k bc
  else xE a b out ia ib g k bc
 |_=>pure (.done (Z9 (lZ a b out ia ib),out,ia,ib,g,ac,bc))
theorem PH (a b:KA):zH a b=(do
 rule "list.sort.merge-lo"
 let x <-elem' b 0
 if 1==b.size then pure (lZ a b #[x] 0 1)
 else if 0+1==a.size then pure (sM a b #[x] 0 1)
 else do
  let st <-get
  let r <-forIn [0:a.size+b.size] ((Z8,#[x],0,1,va st):Option KA×KA×Nat×Nat×Nat) λ_ r=>do
   let r1 <-forIn [0:a.size+b.size] ((Z8,r.2.1,r.2.2.1,r.2.2.2.1,0,0):Dx) λ_ q=>zK a b r.2.2.2.2 q.2.1 q.2.2.1 q.2.2.2.1 q.2.2.2.2.1 q.2.2.2.2.2
   match r1.1 with
   |some z=>pure (.done (Z9 z,r1.2.1,r1.2.2.1,r1.2.2.2.1,r.2.2.2.2))
   |none=>do
    rule "list.sort.gallop"
    let r2 <-forIn [0:a.size+b.size] ((Z8,r1.2.1,r1.2.2.1,r1.2.2.2.1,r.2.2.2.2+1,r1.2.2.2.2.1,r1.2.2.2.2.2):vw) λ_ q=>
     if q.2.2.2.2.1>1 then vx a b q.2.1 q.2.2.1 q.2.2.2.1 (q.2.2.2.2.1-1) q.2.2.2.2.2.1 q.2.2.2.2.2.2
     else vx a b q.2.1 q.2.2.1 q.2.2.2.1 q.2.2.2.2.1 q.2.2.2.2.2.1 q.2.2.2.2.2.2
    match r2.1 with
    |some z=>pure (.done (Z9 z,r2.2.1,r2.2.2.1,r2.2.2.2.1,r2.2.2.2.2.1))
    |none=>do
     oZ (r2.2.2.2.2.1+1)
     pure (.yield (Z8,r2.2.1,r2.2.2.1,r2.2.2.2.1,r2.2.2.2.2.1+1))
  match r.1 with
  |some z=>pure z
  |none=>om "internal:list.sort.merge-bound"):=by
 rw[Py];unfold vx xE xB zK lZ sM
 dsimp only
 congr 1
 funext _
 congr 1
 funext x
 congr 1
 congr 1
 congr 1
 funext st
 congr 1
 .congr 1
  funext i r
  congr 1
  funext r1
  obtain⟨o,r1⟩:=r1;cases o with
  |some z=>rfl
  |none=>
   dsimp only
   congr 1
   funext _
   congr 1
   funext i
   obtain⟨o,i⟩:=i;cases o<;>rfl
 .funext r
  obtain⟨o,r⟩:=r;cases o<;>rfl
abbrev kle (key:Nat->Nat)(x y:Nat):Prop:=key x<=key y
abbrev SrL (key:Nat->Nat)(l:List Nat):Prop:=l.Pairwise (kle key)
section
variable {R:Nat->Nat->Prop}
structure Mg (R:Nat->Nat->Prop)(T po ra rb:List Nat):Prop where
 pm:(po++ra++rb).Perm T
 so:po.Pairwise R
 sa:ra.Pairwise R
 sb:rb.Pairwise R
 la:∀x∈po,∀y∈ra,R x y
 lb:∀x∈po,∀y∈rb,R x y
theorem Mg.pA {T po blk ra rb:List Nat}(h:Mg R T po (blk++ra) rb)(hb:∀y∈blk,∀z∈rb,R y z):Mg R T (po++blk) ra rb where
 pm:=by rw[c9 po blk ra];exact h.pm
 so:=dr.mpr ⟨h.so,(dr.mp h.sa).1,λx hx y hy=>h.la x hx y (fh _ hy)⟩
 sa:=(dr.mp h.sa).2.1
 sb:=h.sb
 la:=λx hx y hy=>by
  rcases d9.mp hx with hx|hx
  .exact h.la x hx y (ax _ hy)
  .exact(dr.mp h.sa).2.2 x hx y hy
 lb:=λx hx y hy=>by
  rcases d9.mp hx with hx|hx
  .exact h.lb x hx y hy
  .exact hb x hx y hy
theorem Mg.swap {T po ra rb:List Nat}(h:Mg R T po ra rb):Mg R T po rb ra where
 pm:=by refine il.trans ?_ h.pm;rw[c9,c9];exact qg _ List.perm_append_comm
 so:=h.so
 sa:=h.sb
 sb:=h.sa
 la:=h.lb
 lb:=h.la
theorem Mg.xF {T po blk ra rb:List Nat}(h:Mg R T po ra (blk++rb))(hb:∀y∈blk,∀z∈ra,R y z):Mg R T (po++blk) ra rb:=(h.swap.pA hb).swap
theorem Mg.fin {T po ra rb:List Nat}(h:Mg R T po ra rb)(hb:∀y∈ra,∀z∈rb,R y z):(po++ra++rb).Perm T/\(po++ra++rb).Pairwise R:=⟨h.pm,by
 rw[c9];refine dr.mpr ⟨h.so,dr.mpr ⟨h.sa,h.sb,hb⟩,λx hx y hy=>?_⟩;rcases d9.mp hy with hy|hy
 .exact h.la x hx y hy
 .exact h.lb x hx y hy⟩
theorem nQ {p:Array Nat}{i:Nat}(hi:i<p.size):p.toList.drop i=p.getD i 0::p.toList.drop (i+1):=by rw[gb (by simpa using hi)];simp[g8,hi]
end
def SmS (st st':dm):Prop:=i7 st'=i7 st/\arrOf st'=arrOf st/\du st'=du st/\j7 st'=j7 st
section
variable {prog:bu}{w:World}{A:fq}{E:Value->ak->Prop}{s:ak}{κ:mf}{it:Array Keyed}{n:Nat}{key:Nat->Nat}
theorem SmS.rfl (st:dm):SmS st st:=⟨Eq.refl _,Eq.refl _,Eq.refl _,Eq.refl _⟩
theorem SmS.trans {a b c:dm}(h:SmS a b)(k:SmS b c):SmS a c:=⟨k.1.trans h.1,k.2.1.trans h.2.1,k.2.2.1.trans h.2.2.1,k.2.2.2.trans h.2.2.2⟩
theorem SmS.zL (st:dm)(g:Nat):SmS st (fY st g):=⟨Eq.refl _,Eq.refl _,Eq.refl _,Eq.refl _⟩
def FinK (it:KA)(key:Nat->Nat)(T:List Nat)(o:KA):Prop:=∃po:Array Nat,o=aQ it po/\po.toList.Perm T/\SrL key po.toList
theorem mC (p:Array Nat)(i:Nat):(p.extract i p.size).toList=p.toList.drop i:=by rw[ig,ge];exact fu (by rw[g7,aw];exact ah _)
theorem zM {p:Array Nat}{i k:Nat}(h:i+k<=p.size):p.toList.drop i=(p.extract i (i+k)).toList++p.toList.drop (i+k):=by rw[ig,ge,lc,<-List.drop_drop,d6]
theorem iI (p:Array Nat)(i j:Nat):(aQ it p).extract i j=aQ it (p.extract i j):=by simp[aQ]
theorem jH (p q:Array Nat):aQ it p++aQ it q=aQ it (p++q):=by simp[aQ]
theorem qM (p:Array Nat)(i:Nat):(aQ it p).push (kas_item it i)=aQ it (p.push i):=by simp[aQ]
theorem gO (p:Array Nat):(aQ it p).size=p.size:=Array.size_map ..
variable {pa pb:Array Nat}{T:List Nat}
theorem xG {po:Array Nat}{ia ib:Nat}(h:Mg (kle key) T po.toList (pa.toList.drop ia) (pb.toList.drop ib))(hb:∀y∈pa.toList.drop ia,∀z∈pb.toList.drop ib,key y<=key z):FinK it key T (lZ (aQ it pa) (aQ it pb) (aQ it po) ia ib):=by
 obtain⟨h1,h2⟩:=h.fin hb;refine⟨po++pa.extract ia pa.size++pb.extract ib pb.size,?_,?_,?_⟩
 .unfold lZ;rw[iI,iI,jH,jH,gO,gO]
 .rw[bq,bq,mC,mC];exact h1
 .rw[bq,bq,mC,mC];exact h2
theorem zN {po:Array Nat}{ia ib:Nat}(h:Mg (kle key) T po.toList (pa.toList.drop ia) (pb.toList.drop ib))(hb:∀y∈pb.toList.drop ib,∀z∈pa.toList.drop ia,key y<=key z):FinK it key T (sM (aQ it pa) (aQ it pb) (aQ it po) ia ib):=by
 obtain⟨h1,h2⟩:=h.swap.fin hb;refine⟨po++pb.extract ib pb.size++pa.extract ia pa.size,?_,?_,?_⟩
 .unfold sM;rw[iI,iI,jH,jH,gO,gO]
 .rw[bq,bq,mC,mC];exact h1
 .rw[bq,bq,mC,mC];exact h2
theorem vy {p:Array Nat}{i:Nat}(h:i=p.size):p.toList.drop i=[]:=by subst h;exact li (by simp)
theorem zO {p:Array Nat}{i:Nat}(h:i+1=p.size):p.toList.drop i=[p.getD (p.size-1) 0]:=by rw[nQ (by omega),vy h,show i=p.size-1 by omega]
theorem zP {l:List Nat}{x:Nat}(h:SrL key (x::l)):∀y∈x::l,key x<=key y:=λy hy=>by
 rcases ay.mp hy with rfl|hy
 .exact ah _
 .exact(bn.mp h).1 y hy
structure LoI (it:KA)(key:Nat->Nat)(pa pb:Array Nat)(T:List Nat)(o:KA)(ia ib:Nat):Prop where
 ex:∃po:Array Nat,o=aQ it po/\Mg (kle key) T po.toList (pa.toList.drop ia) (pb.toList.drop ib)
 la:ia+1<pa.size
 lb:ib<pb.size
theorem Mg.push {R:Nat->Nat->Prop}{po:Array Nat}{x:Nat}{ra rb:List Nat}(h:Mg R T po.toList (x::ra) rb)(hb:∀z∈rb,R x z):Mg R T (po.push x).toList ra rb:=by rw[ui];exact h.pA (blk:=[x]) λy hy z hz=>by rw[cq.mp hy];exact hb z hz
def Ic (it:KA)(key:Nat->Nat)(pa pb:Array Nat)(T:List Nat)(lo:Nat)(c:Dx):Prop:=(∃z,c.1=Z9 z/\FinK it key T z)\/(c.1=Z8/\LoI it key pa pb T c.2.1 c.2.2.1 c.2.2.2.1/\lo<c.2.2.1+c.2.2.2.1)
theorem zth (L:LtOk prog w A E s κ it n key)(ha:AllIn n pa)(hb:AllIn n pb)(hz:∀y∈pb.toList,key y<=key (pa.getD (pa.size-1) 0)){st:dm}(hs:i7 st=κ){o:KA}{ia ib:Nat}(I:LoI it key pa pb T o ia ib)(mg ac bc:Nat):
  wpS (model prog w) A E s (zK (aQ it pa) (aQ it pb) mg o ia ib ac bc) (λr st'=>st'=st/\match r with|.done c=>Ic it key pa pb T (ia+ib) c|.yield c=>c.1=Z8/\LoI it key pa pb T c.2.1 c.2.2.1 c.2.2.2.1/\ia+ib<c.2.2.1+c.2.2.2.1) st:=by
 obtain⟨⟨po,rfl,M⟩,l1,l2⟩:=I;have ea:=nQ (p:=pa) (i:=ia) (by omega);have eb:=nQ (p:=pb) (i:=ib) l2;rw[ea,eb]at M;unfold zK;rw[fZ l2,fZ (by omega)];refine a7 (az (a7 (az (a7 (L _ _ (hb.get _) (ha.get _) _ _ hs ?_)))))
 dsimp only
 by_cases hc:key (pb.getD ib 0)<key (pa.getD ia 0)
 .rw[vq hc];simp only[if_true];refine a7 (az ?_);rw[qM,gO];have M2:Mg (kle key) T (po.push (pb.getD ib 0)).toList (pa.toList.drop ia) (pb.toList.drop (ib+1)):=by rw[ea];exact(M.swap.push λz hz=>by have:=zP M.sa z hz;omega).swap
  by_cases h1:ib+1=pb.size
  .rw[vh (by rw[h1];exact beq_self_eq_true _)];exact az ⟨Eq.refl _,.inl ⟨_,Eq.refl _,xG M2 (by rw[vy h1];intro y _ z hz;cases hz)⟩⟩
  .rw[vm (by simpa using h1)];have I2:LoI it key pa pb T (aQ it (po.push (pb.getD ib 0))) ia (ib+1):=⟨⟨_,Eq.refl _,M2⟩,l1,by omega⟩;by_cases h2:bc+1 ≥ mg
   .rw[vh h2];exact az ⟨Eq.refl _,.inr ⟨Eq.refl _,I2,by show ia+ib<ia+(ib+1);omega⟩⟩
   .rw[vm h2];exact az ⟨Eq.refl _,Eq.refl _,I2,by show ia+ib<ia+(ib+1);omega⟩
 .rw[vr hc];simp only[cf,if_false];refine a7 (az ?_);rw[qM,gO];have M2:Mg (kle key) T (po.push (pa.getD ia 0)).toList (pa.toList.drop (ia+1)) (pb.toList.drop ib):=by rw[eb];exact M.push λz hz=>by have:=zP M.sb z hz;omega
  by_cases h1:ia+1+1=pa.size
  .rw[vh (by rw[h1];exact beq_self_eq_true _)];refine az ⟨Eq.refl _,.inl ⟨_,Eq.refl _,zN M2 ?_⟩⟩;rw[zO h1];intro y hy z dG;rw[cq.mp dG];exact hz y (jd hy)
  .rw[vm (by simpa using h1)];have I2:LoI it key pa pb T (aQ it (po.push (pa.getD ia 0))) (ia+1) ib:=⟨⟨_,Eq.refl _,M2⟩,by omega,l2⟩;by_cases h2:ac+1 ≥ mg
   .rw[vh h2];exact az ⟨Eq.refl _,.inr ⟨Eq.refl _,I2,by show ia+ib<ia+1+ib;omega⟩⟩
   .rw[vm h2];exact az ⟨Eq.refl _,Eq.refl _,I2,by show ia+ib<ia+1+ib;omega⟩
end
section
variable {prog:bu}{w:World}{A:fq}{E:Value->ak->Prop}{s:ak}{κ:mf}{it:Array Keyed}{n:Nat}{key:Nat->Nat}{pa pb:Array Nat}{T:List Nat}
def Dy (it:KA)(key:Nat->Nat)(pa pb:Array Nat)(T:List Nat)(lo:Nat)(c:vw):Prop:=(∃z,c.1=Z9 z/\FinK it key T z)\/(c.1=Z8/\LoI it key pa pb T c.2.1 c.2.2.1 c.2.2.2.1/\lo<=c.2.2.1+c.2.2.2.1)
abbrev Dz (it:KA)(key:Nat->Nat)(pa pb:Array Nat)(T:List Nat)(lo:Nat)(st:dm)(r:ForInStep vw)(st':dm):Prop:=SmS st st'/\match r with|.done c=>Dy it key pa pb T lo c|.yield c=>c.1=Z8/\LoI it key pa pb T c.2.1 c.2.2.1 c.2.2.2.1/\lo<=c.2.2.1+c.2.2.2.1
theorem znq (ha:AllIn n pa)(hb:AllIn n pb)(hz:∀y∈pb.toList,key y<=key (pa.getD (pa.size-1) 0)){st0 st:dm}(hst:SmS st0 st){po:Array Nat}{ia ib lo:Nat}(l1:ia+1<pa.size)(l2:ib<pb.size)(hlo:lo<=ia+ib)
  (M:Mg (kle key) T po.toList (pa.toList.drop ia) (pb.toList.drop ib)) (hk:∀z∈pb.toList.drop ib,key (pa.getD ia 0)<=key z) (g k k1:Nat):
  wpS (model prog w) A E s (xB (aQ it pa) (aQ it pb) (aQ it po) ia ib g k k1) (Dz it key pa pb T lo st0) st:=by
 unfold xB;rw[fZ (by omega)];refine a7 (az ?_);rw[qM,gO];have M2:Mg (kle key) T (po.push (pa.getD ia 0)).toList (pa.toList.drop (ia+1)) (pb.toList.drop ib):=by rw[nQ (p:=pa) (i:=ia) (by omega)]at M;exact M.push hk
 by_cases h1:ia+1+1=pa.size
 .rw[vh (by rw[h1];exact beq_self_eq_true _)];refine az ⟨hst,.inl ⟨_,Eq.refl _,zN M2 ?_⟩⟩;rw[zO h1];intro y hy z dG;rw[cq.mp dG];exact hz y (jd hy)
 .rw[vm (by simpa using h1)];have I2:LoI it key pa pb T (aQ it (po.push (pa.getD ia 0))) (ia+1) ib:=⟨⟨_,Eq.refl _,M2⟩,by omega,l2⟩;by_cases h2:(decide (k<7)&&decide (k1<7))=Z7
  .rw[vh h2];exact az ⟨hst,.inr ⟨Eq.refl _,I2,by show lo<=ia+1+ib;omega⟩⟩
  .rw[vm h2];exact az ⟨hst,Eq.refl _,I2,by show lo<=ia+1+ib;omega⟩
theorem zQ {p:Array Nat}(h:SrL key p.toList){b m:Nat}(hm:b+m<=p.size):∀i j,i<=j->j<m->Kp' key p (b+i)<=Kp' key p (b+j):=λi j cM hj=>by
 rcases uj i j with eF|xH
 .have :=d8.mp h (b+i) (b+j) (by rw[aw];omega) (by rw[aw];omega) (by omega);unfold Kp';have e1:p.getD (b+i) 0=p[b+i]:=by simp[g8,show b+i<p.size by omega]
  have e2:p.getD (b+j) 0=p[b+j]:=by simp[g8,show b+j<p.size by omega]
  rw[e1,e2];simpa using this
 .have :i=j:=by omega
  subst this;exact ah _
theorem pB {p:Array Nat}{i k y:Nat}(h:i+k<=p.size)(hy:y∈(p.extract i (i+k)).toList):∃j,j<k/\y=p.getD (i+j) 0:=by rw[ig,ge,lc]at hy;obtain⟨j,hj,e⟩:=gq hy;rw[df,g7,aw]at hj;refine⟨j,by omega,?_⟩;rw[<-e,oo,oq];simp[g8,show i+j<p.size by omega]
theorem DA {p:Array Nat}{i y:Nat}(hy:y∈p.toList.drop i):∃j,i+j<p.size/\y=p.getD (i+j) 0:=by obtain⟨j,hj,e⟩:=gq hy;rw[g7,aw]at hj;refine⟨j,by omega,?_⟩;rw[<-e,oq];simp[g8,show i+j<p.size by omega]
theorem zpc (L:LtOk prog w A E s κ it n key)(ha:AllIn n pa)(hb:AllIn n pb)(sb:SrL key pb.toList)(hz:∀y∈pb.toList,key y<=key (pa.getD (pa.size-1) 0)){st0 st:dm}(hst:SmS st0 st)(hs:i7 st=κ){po:Array Nat}{ia ib lo:Nat}(l1:ia+1<pa.size)(l2:ib<pb.size)(hlo:lo<=ia+ib)
  (M:Mg (kle key) T po.toList (pa.toList.drop ia) (pb.toList.drop ib)) (hk:∀z∈pa.toList.drop ia,key (pb.getD ib 0)<=key z) (g k bc:Nat):
  wpS (model prog w) A E s (xE (aQ it pa) (aQ it pb) (aQ it po) ia ib g k bc) (Dz it key pa pb T lo st0) st:=by
 unfold xE;rw[fZ l2];refine a7 (az ?_);rw[qM,gO];have M2:Mg (kle key) T (po.push (pb.getD ib 0)).toList (pa.toList.drop ia) (pb.toList.drop (ib+1)):=by rw[nQ (p:=pb) (i:=ib) l2]at M;exact(M.swap.push hk).swap
 by_cases h1:ib+1=pb.size
 .rw[vh (by rw[h1];exact beq_self_eq_true _)];exact az ⟨hst,.inl ⟨_,Eq.refl _,xG M2 (by rw[vy h1];intro y _ z hz;cases hz)⟩⟩
 .rw[vm (by simpa using h1),fZ (by omega)];refine a7 (az (a7 (z2h L (ha.get _) hb (by omega) (by omega) (zQ sb (by omega)) hs λr hr r1 r2=>?_)))
  dsimp only
  have up:∀z∈pb.toList.drop (ib+1+r),key (pa.getD ia 0)<=key z:=λz dG=>by obtain⟨j,hj,rfl⟩:=DA dG;have:=r2 (r+j) (by omega) (by omega);unfold ByB Kp' at this;simp only[if_true,decide_eq_false_iff_not]at this;rw[show ib+1+r+j=ib+1+(r+j) by omega];omega
  by_cases h2:r>0
  .rw[vh h2];have M3:Mg (kle key) T (po.push (pb.getD ib 0)++pb.extract (ib+1) (ib+1+r)).toList (pa.toList.drop ia) (pb.toList.drop (ib+1+r)):=by rw[bq];rw[zM (p:=pb) (i:=ib+1) (k:=r) (by omega)]at M2;refine M2.xF λy hy z dG=>?_;obtain⟨j,hj,rfl⟩:=pB (by omega) hy;have:=r1 j hj;unfold ByB Kp' at this;simp only[if_true,decide_eq_true_iff]at this;rw[nQ (p:=pa) (i:=ia) (by omega)]at dG;have h4:=M2.sa;rw[nQ (p:=pa) (i:=ia) (by omega)]at h4;have:=zP h4 z dG;omega
   rw[iI,jH];by_cases h3:ib+1+r=pb.size
   .rw[vh (by rw[h3];exact beq_self_eq_true _)];exact az ⟨hst,.inl ⟨_,Eq.refl _,xG M3 (by rw[vy h3];intro y _ z hz;cases hz)⟩⟩
   .rw[vm (by simpa using h3)];exact znq ha hb hz hst l1 (by omega) (by omega) M3 up _ _ _
  .rw[vm h2];have e:r=0:=by omega
   subst e;exact znq ha hb hz hst l1 (by omega) (by omega) M2 up _ _ _
theorem zsz (L:LtOk prog w A E s κ it n key)(ha:AllIn n pa)(hb:AllIn n pb)(sa:SrL key pa.toList)(sb:SrL key pb.toList)(hz:∀y∈pb.toList,key y<=key (pa.getD (pa.size-1) 0)){st0 st:dm}(hst:SmS st0 st)(hs:i7 st=κ){o:KA}{ia ib lo:Nat}(hlo:lo<=ia+ib)
  (I:LoI it key pa pb T o ia ib) (g ac bc:Nat):
  wpS (model prog w) A E s (vx (aQ it pa) (aQ it pb) o ia ib g ac bc) (Dz it key pa pb T lo st0) st:=by
 obtain⟨⟨po,rfl,M⟩,l1,l2⟩:=I;unfold vx;rw[zJ];refine a7 (jv ?_);have eG:=hst.trans (SmS.zL st g);generalize fY st g=eZ at eG;have mD:i7 eZ=κ:=by rw[eG.1,<-hst.1];exact hs
 rw[fZ l2,gO];refine a7 (az (a7 (z2h L (hb.get _) ha (by omega) (by omega) (zQ sa (by omega)) mD λr hr r1 r2=>?_)))
 dsimp only
 have up:∀z∈pa.toList.drop (ia+r),key (pb.getD ib 0)<=key z:=λz dG=>by obtain⟨j,hj,rfl⟩:=DA dG;have:=r2 (r+j) (by omega) (by omega);unfold ByB Kp' at this;simp only[cf,if_false,decide_eq_false_iff_not]at this;rw[show ia+r+j=ia+(r+j) by omega];omega
 by_cases h2:r>0
 .rw[vh h2];have M3:Mg (kle key) T (po++pa.extract ia (ia+r)).toList (pa.toList.drop (ia+r)) (pb.toList.drop ib):=by rw[bq];rw[zM (p:=pa) (i:=ia) (k:=r) (by omega)]at M;refine M.pA λy hy z dG=>?_;obtain⟨j,hj,rfl⟩:=pB (by omega) hy;have:=r1 j hj;unfold ByB Kp' at this;simp only[cf,if_false,decide_eq_true_iff]at this;rw[nQ (p:=pb) (i:=ib) l2]at dG;have h4:=M.sb;rw[nQ (p:=pb) (i:=ib) l2]at h4;have:=zP h4 z dG;omega
  rw[iI,jH];by_cases h3:ia+r+1=pa.size
  .rw[vh (by rw[h3];exact beq_self_eq_true _)];refine az ⟨eG,.inl ⟨_,Eq.refl _,zN M3 ?_⟩⟩;rw[zO h3];intro y hy z dG;rw[cq.mp dG];exact hz y (jd hy)
  .rw[vm (by simpa using h3)];by_cases h4:ia+r=pa.size
   .rw[vh (by rw[h4];exact beq_self_eq_true _)];exact az ⟨eG,.inl ⟨_,Eq.refl _,xG M3 (by rw[vy h4];intro y hy;cases hy)⟩⟩
   .rw[vm (by simpa using h4)];exact zpc L ha hb sb hz eG mD (by omega) l2 (by omega) M3 up _ _ _
 .rw[vm h2];have e:r=0:=by omega
  subst e;exact zpc L ha hb sb hz eG mD l1 l2 hlo M up _ _ _
theorem zd4 (L:LtOk prog w A E s κ it n key)(ha:AllIn n pa)(hb:AllIn n pb)(a1:1<=pa.size)(b1:1<=pb.size)(sa:SrL key pa.toList)(sb:SrL key pb.toList)
  (h0:∀y∈pa.toList,key (pb.getD 0 0)<=key y) (hz:∀y∈pb.toList,key y<=key (pa.getD (pa.size-1) 0)) {st:dm} (hs:i7 st=κ) {Q:Array Keyed->dm->Prop}
  (h:∀o st',FinK it key (pa.toList++pb.toList) o->SmS st st'->Q o st'):wpS (model prog w) A E s (zH (aQ it pa) (aQ it pb)) Q st:=by
 rw[PH];refine a7 (pj (ip ⟨Eq.refl _,?_⟩));rw[fZ (by omega),gO,gO];refine a7 (az ?_);have M0:Mg (kle key) (pa.toList++pb.toList) [] (pa.toList.drop 0) (pb.toList.drop 0):=⟨List.Perm.refl _,List.Pairwise.nil,sa,sb,(λ_ h=>by cases h),λ_ h=>by cases h⟩;have M1:Mg (kle key) (pa.toList++pb.toList) (#[pb.getD 0 0]:Array Nat).toList (pa.toList.drop 0) (pb.toList.drop 1):=by rw[nQ (p:=pb) (i:=0) (by omega)]at M0;exact(M0.swap.push (po:=#[]) h0).swap
 have e0:(#[kas_item it (pb.getD 0 0)]:KA)=aQ it #[pb.getD 0 0]:=by simp[aQ]
 rw[e0];by_cases h1:1=pb.size
 .rw[vh (by rw[<-h1];rfl)];exact az (h _ _ (xG M1 (by rw[vy h1];intro y _ z hz;cases hz)) (SmS.rfl st))
 rw[vm (by simpa using h1)];by_cases h2:0+1=pa.size
 .rw[vh (by rw[<-h2];rfl)];refine az (h _ _ (zN M1 ?_) (SmS.rfl st));rw[zO h2];intro y hy z dG;rw[cq.mp dG];exact hz y (jd hy)
 rw[vm (by simpa using h2)];refine a7 (lj ?_);refine a7 (gc (fy (I:=λx c st'=>SmS st st'/\c.1=Z8/\LoI it key pa pb (pa.toList++pb.toList) c.2.1 c.2.2.1 c.2.2.2.1/\x+1<=c.2.2.1+c.2.2.2.1) (Q:=λc st'=>SmS st st'/\∃z,c.1=Z9 z/\FinK it key (pa.toList++pb.toList) z) ?_ ?_ ⟨SmS.rfl st,Eq.refl _,⟨⟨_,Eq.refl _,M1⟩,by show 0+1<pa.size;omega,by show 1<pb.size;omega⟩,by show 0+1<=0+1;omega⟩) ?_)
 .rintro x c dH _ hx ⟨hm,hc,I,hlo⟩
  have zR:i7 dH=κ:=by rw[hm.1];exact hs
  refine a7 (gc (fy (I:=λy d st'=>SmS st st'/\d.1=Z8/\LoI it key pa pb (pa.toList++pb.toList) d.2.1 d.2.2.1 d.2.2.2.1/\(if y=0 then x+1 else x+2)<=d.2.2.1+d.2.2.2.1) (Q:=λd st'=>SmS st st'/\Ic it key pa pb (pa.toList++pb.toList) (x+1) d) ?_ ?_ ⟨hm,Eq.refl _,I,by rw[vh (Eq.refl _)];exact hlo⟩) ?_)
  .rintro y d eZ _ hy ⟨hm2,hd,I2,eW⟩
   have mD:i7 eZ=κ:=by rw[hm2.1];exact hs
   have xH:x+1<=d.2.2.1+d.2.2.2.1:=by split at eW<;>omega
   refine gc (zth L ha hb hz mD I2 _ _ _) λr gV hr=>?_;obtain⟨rfl,hr⟩:=hr;cases r with
   |done c'=>
    refine⟨hm2,?_⟩;rcases hr with hr|⟨r1,r2,r3⟩
    .exact .inl hr
    .exact .inr ⟨r1,r2,by omega⟩
   |yield c'=>exact⟨hm2,hr.1,hr.2.1,by rw[vm (by omega)];omega⟩
  .rintro d eZ ⟨hm2,hd,I2,eW⟩
   rw[vm (by omega)]at eW;exact⟨hm2,.inr ⟨hd,I2,by omega⟩⟩
  .rintro d eZ ⟨hm2,hd⟩
   obtain⟨o,d⟩:=d;rcases hd with⟨z,kH,kI⟩|⟨hn,I2,eW⟩
   .cases kH;exact az ⟨hm2,z,Eq.refl _,kI⟩
   .cases hn
    dsimp only at I2 eW ⊢
    refine a7 (pj (ip ⟨Eq.refl _,?_⟩));refine a7 (gc (fy (I:=λ_ e st'=>SmS st st'/\e.1=Z8/\LoI it key pa pb (pa.toList++pb.toList) e.2.1 e.2.2.1 e.2.2.2.1/\x+2<=e.2.2.1+e.2.2.2.1) (Q:=λe st'=>SmS st st'/\Dy it key pa pb (pa.toList++pb.toList) (x+2) e) ?_ ?_ ⟨hm2,Eq.refl _,I2,by show x+2<=d.2.1+d.2.2.1;omega⟩) ?_)
    .rintro y e gV _ hy ⟨gP,he,I3,eI⟩
     have zS:i7 gV=κ:=by rw[gP.1];exact hs
     have fin:∀g,wpS (model prog w) A E s (vx (aQ it pa) (aQ it pb) e.2.1 e.2.2.1 e.2.2.2.1 g e.2.2.2.2.2.1 e.2.2.2.2.2.2) (λr st'=>match r with|.done c'=>SmS st st'/\Dy it key pa pb (pa.toList++pb.toList) (x+2) c'|.yield c'=>SmS st st'/\c'.1=Z8/\LoI it key pa pb (pa.toList++pb.toList) c'.2.1 c'.2.2.1 c'.2.2.2.1/\x+2<=c'.2.2.1+c'.2.2.2.1) gV:=λg=>gc (zsz L ha hb sa sb hz gP zS eI I3 _ _ _) λr zT hr=>by
      cases r with
      |done c'=>exact hr
      |yield c'=>exact hr
     split
     .exact gc (fin _) λr zT hr=>by cases r<;>exact hr
     .exact gc (fin _) λr zT hr=>by cases r<;>exact hr
    .rintro e gV ⟨gP,he,I3,eI⟩
     exact⟨gP,.inr ⟨he,I3,eI⟩⟩
    .rintro e gV ⟨gP,he⟩
     obtain⟨o,e⟩:=e;rcases he with⟨z,kH,kI⟩|⟨hn,I3,eI⟩
     .cases kH;exact az ⟨gP,z,Eq.refl _,kI⟩
     .cases hn
      dsimp only at I3 eI ⊢
      rw[zJ];refine a7 (jv (az ⟨gP.trans (SmS.zL gV _),Eq.refl _,I3,by show x+1+1<=_;omega⟩))
 .rintro c dH ⟨hm,hc,I,hlo⟩
  have:=I.la;have:=I.lb;omega
 .rintro c dH ⟨hm,z,kH,kI⟩
  obtain⟨o,c⟩:=c;cases kH;exact az (h z dH kI hm)
end
theorem PJ (a b:Array Keyed):zI a b=(do
 rule "list.sort.merge-hi"
 let total:=a.size+b.size
 let done (out:Array Keyed) (na nb:Nat):=a.extract 0 na++b.extract 0 nb++out.reverse
 let dR (out:Array Keyed) (na nb:Nat):=b.extract 0 nb++a.extract 0 na++out.reverse
 let mut na:=a.size-1
 let mut nb:=b.size
 let mut out:Array Keyed:=#[<-elem' a na]
 if na==0 then return done out na nb
 if nb==1 then return dR out na nb
 let mut minGallop:=va (<-get)
 for _ in[0:total] do
  let mut bG:=0
  let mut bH:=0
  for _ in[0:total] do
   let Z9 xI <-lt' (<-elem' b (nb-1)) (<-elem' a (na-1))|return done out na nb
   if xI then
    na:=na-1;out:=out.push (<-elem' a na);bG:=bG+1;bH:=0
    if na==0 then return done out na nb
    if bG ≥ minGallop then break
   else
    nb:=nb-1;out:=out.push (<-elem' b nb);bH:=bH+1;bG:=0
    if nb==1 then return dR out na nb
    if bH ≥ minGallop then break
  rule "list.sort.gallop"
  minGallop:=minGallop+1
  for _ in[0:total] do
   if minGallop>1 then minGallop:=minGallop-1
   oZ minGallop
   let Z9 at_ <-kX Z6 (<-elem' b (nb-1)) a 0 na (na-1)|return done out na nb
   let k:=na-at_
   bG:=k
   if k>0 then
    out:=out++(a.extract at_ na).reverse;na:=at_
    if na==0 then return done out na nb
   nb:=nb-1;out:=out.push (<-elem' b nb)
   if nb==1 then return dR out na nb
   let Z9 at_ <-kX Z7 (<-elem' a (na-1)) b 0 nb (nb-1)|return done out na nb
   let k:=nb-at_
   bH:=k
   if k>0 then
    out:=out++(b.extract at_ nb).reverse;nb:=at_
    if nb==1 then return dR out na nb
    if nb==0 then return done out na nb
   na:=na-1;out:=out.push (<-elem' a na)
   if na==0 then return done out na nb
   if bG<7&&bH<7 then break
  minGallop:=minGallop+1
  oZ minGallop
 om "internal:list.sort.merge-bound"):=rfl
def mE (a b out:KA)(na nb:Nat):KA:=a.extract 0 na++b.extract 0 nb++out.reverse
def sN (a b out:KA)(na nb:Nat):KA:=b.extract 0 nb++a.extract 0 na++out.reverse
abbrev DB:=Option KA×Nat×Nat×KA×Nat×Nat
abbrev vA:=Option KA×Nat×Nat×KA×Nat×Nat×Nat
def zU (a b:KA)(mg:Nat)(na nb:Nat)(out:KA)(ac bc:Nat):SM (ForInStep DB):=do
 let x <-elem' b (nb-1)
 let y <-elem' a (na-1)
 let z <-lt' x y
 match z with
 |some c=>
  if c then do
   let x <-elem' a (na-1)
   if na-1==0 then pure (.done (Z9 (mE a b (out.push x) (na-1) nb),na-1,nb,out.push x,ac+1,0))
   else if ac+1 ≥ mg then pure (.done (Z8,na-1,nb,out.push x,ac+1,0))
   else pure (.yield (Z8,na-1,nb,out.push x,ac+1,0))
  else do
   let x <-elem' b (nb-1)
   if nb-1==1 then pure (.done (Z9 (sN a b (out.push x) na (nb-1)),na,nb-1,out.push x,0,bc+1))
   else if bc+1 ≥ mg then pure (.done (Z8,na,nb-1,out.push x,0,bc+1))
   else pure (.yield (Z8,na,nb-1,out.push x,0,bc+1))
 |_=>pure (.done (Z9 (mE a b out na nb),na,nb,out,ac,bc))
def xJ (a b:KA)(na nb:Nat)(out:KA)(g k k1:Nat):SM (ForInStep vA):=do
 let x <-elem' a (na-1)
 if na-1==0 then pure (.done (Z9 (mE a b (out.push x) (na-1) nb),na-1,nb,out.push x,g,k,k1))
 else if(decide (k<7)&&decide (k1<7))=Z7 then pure (.done (Z8,na-1,nb,out.push x,g,k,k1))
 else pure (.yield (Z8,na-1,nb,out.push x,g,k,k1))
def xK (a b:KA)(na nb:Nat)(out:KA)(g k bc:Nat):SM (ForInStep vA):=do
 let x <-elem' b (nb-1)
 if nb-1==1 then pure (.done (Z9 (sN a b (out.push x) na (nb-1)),na,nb-1,out.push x,g,k,bc))
 else do
  let y <-elem' a (na-1)
  let z <-kX Z7 y b 0 (nb-1) (nb-1-1)
  match z with
  |some r=>
   if nb-1-r>0 then
    if r==1 then pure (.done (Z9 (sN a b (out.push x++(b.extract r (nb-1)).reverse) na r),na,r,out.push x++(b.extract r (nb-1)).reverse,g,k,nb-1-r))
    else if r==0 then pure (.done (Z9 (mE a b (out.push x++(b.extract r (nb-1)).reverse) na r),na,r,out.push x++(b.extract r (nb-1)).reverse,g,k,nb-1-r))
    else xJ a b na r (out.push x++(b.extract r (nb-1)).reverse) g k (nb-1-r)
   else xJ a b na (nb-1) (out.push x) g k (nb-1-r)
  |_=>pure (.done (Z9 (mE a b (out.push x) na (nb-1)),na,nb-1,out.push x,g,k,bc))
def xM (a b:KA)(na nb:Nat)(out:KA)(g ac bc:Nat):SM (ForInStep vA):=do
 oZ g
 let x <-elem' b (nb-1)
 let z <-kX Z6 x a 0 na (na-1)
 match z with
 |some r=>
  if na-r>0 then
   if r==0 then pure (.done (Z9 (mE a b (out++(a.extract r na).reverse) r nb),r,nb,out++(a.extract r na).reverse,g,na-r,bc))
   else xK a b r nb (out++(a.extract r na).reverse) g (na-r) bc
  else xK a b na nb out g (na-r) bc
 |_=>pure (.done (Z9 (mE a b out na nb),na,nb,out,g,ac,bc))
theorem PM (a b:KA):zI a b=(do
 rule "list.sort.merge-hi"
 let x <-elem' a (a.size-1)
 if a.size-1==0 then pure (mE a b #[x] (a.size-1) b.size)
 else if b.size==1 then pure (sN a b #[x] (a.size-1) b.size)
 else do
  let st <-get
  let r <-forIn [0:a.size+b.size] ((Z8,a.size-1,b.size,#[x],va st):Option KA×Nat×Nat×KA×Nat) λ_ r=>do
   let r1 <-forIn [0:a.size+b.size] ((Z8,r.2.1,r.2.2.1,r.2.2.2.1,0,0):DB) λ_ q=>zU a b r.2.2.2.2 q.2.1 q.2.2.1 q.2.2.2.1 q.2.2.2.2.1 q.2.2.2.2.2
   match r1.1 with
   |some z=>pure (.done (Z9 z,r1.2.1,r1.2.2.1,r1.2.2.2.1,r.2.2.2.2))
   |none=>do
    rule "list.sort.gallop"
    let r2 <-forIn [0:a.size+b.size] ((Z8,r1.2.1,r1.2.2.1,r1.2.2.2.1,r.2.2.2.2+1,r1.2.2.2.2.1,r1.2.2.2.2.2):vA) λ_ q=>
     if q.2.2.2.2.1>1 then xM a b q.2.1 q.2.2.1 q.2.2.2.1 (q.2.2.2.2.1-1) q.2.2.2.2.2.1 q.2.2.2.2.2.2
     else xM a b q.2.1 q.2.2.1 q.2.2.2.1 q.2.2.2.2.1 q.2.2.2.2.2.1 q.2.2.2.2.2.2
    match r2.1 with
    |some z=>pure (.done (Z9 z,r2.2.1,r2.2.2.1,r2.2.2.2.1,r2.2.2.2.2.1))
    |none=>do
     oZ (r2.2.2.2.2.1+1)
     pure (.yield (Z8,r2.2.1,r2.2.2.1,r2.2.2.2.1,r2.2.2.2.2.1+1))
  match r.1 with
  |some z=>pure z
  |none=>om "internal:list.sort.merge-bound"):=by
 rw[PJ];unfold xM xK xJ zU mE sN
 dsimp only
 congr 1
 funext _
 congr 1
 funext x
 congr 1
 congr 1
 congr 1
 funext st
 congr 1
 .congr 1
  funext i r
  congr 1
  funext r1
  obtain⟨o,r1⟩:=r1;cases o with
  |some z=>rfl
  |none=>
   dsimp only
   congr 1
   funext _
   congr 1
   funext i
   obtain⟨o,i⟩:=i;cases o<;>rfl
 .funext r
  obtain⟨o,r⟩:=r;cases o<;>rfl
abbrev iV (key:Nat->Nat)(x y:Nat):Prop:=key y<=key x
abbrev bP (p:Array Nat)(k:Nat):List Nat:=(p.toList.take k).reverse
section
variable {prog:bu}{w:World}{A:fq}{E:Value->ak->Prop}{s:ak}{κ:mf}{it:Array Keyed}{n:Nat}{key:Nat->Nat}{pa pb:Array Nat}{T:List Nat}
theorem sO {p:Array Nat}{k:Nat}(h1:1<=k)(h:k<=p.size):bP p k=p.getD (k-1) 0::bP p (k-1):=by obtain⟨j,rfl⟩:∃j,k=j+1:=⟨k-1,by omega⟩;show(p.toList.take (j+1)).reverse=_;rw[List.take_succ_eq_append_getElem (by rw[aw];omega),iu];simp[g8,show j<p.size by omega]
theorem Ie {p:Array Nat}{r k:Nat}(hr:r<=k)(h:k<=p.size):bP p k=(p.extract r k).reverse.toList++bP p r:=by rw[j8,ig,ge,<-iu];obtain⟨d,rfl⟩:∃d,k=r+d:=⟨k-r,by omega⟩;rw[lc];show(List.take (r+d) p.toList).reverse=_;rw[List.take_add]
theorem DC {p:Array Nat}{k y:Nat}(hk:k<=p.size)(hy:y∈bP p k):∃j,j<k/\y=p.getD j 0:=by obtain⟨j,hj,e⟩:=gq (l6.mp hy);rw[df,aw]at hj;refine⟨j,by omega,?_⟩;rw[<-e,oo];simp[g8,show j<p.size by omega]
theorem Ig {p:Array Nat}{r k y:Nat}(hk:k<=p.size)(hy:y∈(p.extract r k).reverse.toList):∃j,r<=j/\j<k/\y=p.getD j 0:=by rw[j8,l6,ig,ge]at hy;obtain⟨j,hj,e⟩:=gq hy;rw[df,g7,aw]at hj;refine⟨r+j,by omega,by omega,?_⟩;rw[<-e,oo,oq];simp[g8,show r+j<p.size by omega]
theorem zV {p:Array Nat}:bP p p.size=p.toList.reverse:=by show(p.toList.take p.size).reverse=_;rw[fu (by rw[aw];exact ah _)]
theorem Ih {l:List Nat}(h:SrL key l):l.reverse.Pairwise (iV key):=ly.mpr h
theorem iW (p:Array Nat)(k:Nat):(p.extract 0 k).toList=p.toList.take k:=by rw[ig,ge,List.drop_zero,Nat.sub_zero]
theorem zW (p:Array Nat):(aQ it p).reverse=aQ it p.reverse:=by simp[aQ]
theorem xN {po:Array Nat}{na nb:Nat}(h:Mg (iV key) T po.toList (bP pa na) (bP pb nb))(hb:∀y∈bP pb nb,∀z∈bP pa na,key z<=key y):FinK it key T (mE (aQ it pa) (aQ it pb) (aQ it po) na nb):=by
 obtain⟨h1,h2⟩:=h.swap.fin hb;have e:(pa.extract 0 na++pb.extract 0 nb++po.reverse).toList=(po.toList++bP pb nb++bP pa na).reverse:=by rw[bq,bq,iW,iW,j8,iu,iu,j9,j9,c9]
 refine⟨pa.extract 0 na++pb.extract 0 nb++po.reverse,?_,?_,?_⟩
 .unfold mE;rw[iI,iI,zW,jH,jH]
 .rw[e];exact(ll _).trans h1
 .rw[e];exact ly.mpr h2
theorem zZ {po:Array Nat}{na nb:Nat}(h:Mg (iV key) T po.toList (bP pa na) (bP pb nb))(hb:∀y∈bP pa na,∀z∈bP pb nb,key z<=key y):FinK it key T (sN (aQ it pa) (aQ it pb) (aQ it po) na nb):=by
 obtain⟨h1,h2⟩:=h.fin hb;have e:(pb.extract 0 nb++pa.extract 0 na++po.reverse).toList=(po.toList++bP pa na++bP pb nb).reverse:=by rw[bq,bq,iW,iW,j8,iu,iu,j9,j9,c9]
 refine⟨pb.extract 0 nb++pa.extract 0 na++po.reverse,?_,?_,?_⟩
 .unfold sN;rw[iI,iI,zW,jH,jH]
 .rw[e];exact(ll _).trans h1
 .rw[e];exact ly.mpr h2
theorem z0 {l:List Nat}{x:Nat}(h:(x::l).Pairwise (iV key)):∀y∈x::l,key y<=key x:=λy hy=>by
 rcases ay.mp hy with rfl|hy
 .exact ah _
 .exact(bn.mp h).1 y hy
structure HiI (it:KA)(key:Nat->Nat)(pa pb:Array Nat)(T:List Nat)(na nb:Nat)(o:KA):Prop where
 ex:∃po:Array Nat,o=aQ it po/\Mg (iV key) T po.toList (bP pa na) (bP pb nb)
 la:1<=na/\na<=pa.size
 lb:2<=nb/\nb<=pb.size
def Ii (it:KA)(key:Nat->Nat)(pa pb:Array Nat)(T:List Nat)(up:Nat)(c:DB):Prop:=(∃z,c.1=Z9 z/\FinK it key T z)\/(c.1=Z8/\HiI it key pa pb T c.2.1 c.2.2.1 c.2.2.2.1/\c.2.1+c.2.2.1<up)
def Ij (it:KA)(key:Nat->Nat)(pa pb:Array Nat)(T:List Nat)(up:Nat)(c:vA):Prop:=(∃z,c.1=Z9 z/\FinK it key T z)\/(c.1=Z8/\HiI it key pa pb T c.2.1 c.2.2.1 c.2.2.2.1/\c.2.1+c.2.2.1<=up)
abbrev DD (it:KA)(key:Nat->Nat)(pa pb:Array Nat)(T:List Nat)(up:Nat)(st:dm)(r:ForInStep vA)(st':dm):Prop:=SmS st st'/\match r with|.done c=>Ij it key pa pb T up c|.yield c=>c.1=Z8/\HiI it key pa pb T c.2.1 c.2.2.1 c.2.2.2.1/\c.2.1+c.2.2.1<=up
theorem z4 (hz:∀y∈pa.toList,key (pb.getD 0 0)<=key y)(PN:1<=pb.size){na:Nat}:∀y∈bP pa na,∀z∈bP pb 1,key z<=key y:=λy hy z dG=>by
 obtain⟨j,hj,rfl⟩:=DC PN dG;have:j=0:=by omega
 subst this;exact hz y (je (l6.mp hy))
theorem zse (L:LtOk prog w A E s κ it n key)(ha:AllIn n pa)(hb:AllIn n pb)(hz:∀y∈pa.toList,key (pb.getD 0 0)<=key y){st:dm}(hs:i7 st=κ){o:KA}{na nb:Nat}(I:HiI it key pa pb T na nb o)(mg ac bc:Nat):
  wpS (model prog w) A E s (zU (aQ it pa) (aQ it pb) mg na nb o ac bc) (λr st'=>st'=st/\match r with|.done c=>Ii it key pa pb T (na+nb) c|.yield c=>c.1=Z8/\HiI it key pa pb T c.2.1 c.2.2.1 c.2.2.2.1/\c.2.1+c.2.2.1<na+nb) st:=by
 obtain⟨⟨po,rfl,M⟩,⟨l1,l2⟩,l3,l4⟩:=I;have ea:=sO l1 l2;have eb:=sO (p:=pb) (k:=nb) (by omega) l4;rw[ea,eb]at M;unfold zU;rw[fZ (by omega),fZ (by omega)];refine a7 (az (a7 (az (a7 (L _ _ (hb.get _) (ha.get _) _ _ hs ?_)))))
 dsimp only
 by_cases hc:key (pb.getD (nb-1) 0)<key (pa.getD (na-1) 0)
 .rw[vq hc];simp only[if_true];refine a7 (az ?_);rw[qM];have M2:Mg (iV key) T (po.push (pa.getD (na-1) 0)).toList (bP pa (na-1)) (bP pb nb):=by rw[eb];exact M.push λz hz=>by have:=z0 M.sb z hz;show key z<=_;omega
  by_cases h1:na-1=0
  .rw[vh (by rw[h1];rfl)];exact az ⟨Eq.refl _,.inl ⟨_,Eq.refl _,xN M2 (by rw[h1];intro y _ z hz;cases hz)⟩⟩
  .rw[vm (by simpa using h1)];have I2:HiI it key pa pb T (na-1) nb (aQ it (po.push (pa.getD (na-1) 0))):=⟨⟨_,Eq.refl _,M2⟩,⟨by omega,by omega⟩,l3,l4⟩;by_cases h2:ac+1 ≥ mg
   .rw[vh h2];exact az ⟨Eq.refl _,.inr ⟨Eq.refl _,I2,by show na-1+nb<na+nb;omega⟩⟩
   .rw[vm h2];exact az ⟨Eq.refl _,Eq.refl _,I2,by show na-1+nb<na+nb;omega⟩
 .rw[vr hc];simp only[cf,if_false];refine a7 (az ?_);rw[qM];have M2:Mg (iV key) T (po.push (pb.getD (nb-1) 0)).toList (bP pa na) (bP pb (nb-1)):=by rw[ea];exact(M.swap.push λz hz=>by have:=z0 M.sa z hz;show key z<=_;omega).swap
  by_cases h1:nb-1=1
  .rw[vh (by rw[h1];rfl)];exact az ⟨Eq.refl _,.inl ⟨_,Eq.refl _,zZ M2 (by rw[h1];exact z4 hz (by omega))⟩⟩
  .rw[vm (by simpa using h1)];have I2:HiI it key pa pb T na (nb-1) (aQ it (po.push (pb.getD (nb-1) 0))):=⟨⟨_,Eq.refl _,M2⟩,⟨l1,l2⟩,by omega,by omega⟩;by_cases h2:bc+1 ≥ mg
   .rw[vh h2];exact az ⟨Eq.refl _,.inr ⟨Eq.refl _,I2,by show na+(nb-1)<na+nb;omega⟩⟩
   .rw[vm h2];exact az ⟨Eq.refl _,Eq.refl _,I2,by show na+(nb-1)<na+nb;omega⟩
theorem zq0 {st0 st:dm}(hst:SmS st0 st){po:Array Nat}{na nb up:Nat}(l1:1<=na/\na<=pa.size)(l2:2<=nb/\nb<=pb.size)(hup:na+nb<=up)
  (M:Mg (iV key) T po.toList (bP pa na) (bP pb nb)) (hk:∀z∈bP pb nb,key z<=key (pa.getD (na-1) 0)) (g k k1:Nat):
  wpS (model prog w) A E s (xJ (aQ it pa) (aQ it pb) na nb (aQ it po) g k k1) (DD it key pa pb T up st0) st:=by
 unfold xJ;rw[fZ (by omega)];refine a7 (az ?_);rw[qM];have M2:Mg (iV key) T (po.push (pa.getD (na-1) 0)).toList (bP pa (na-1)) (bP pb nb):=by rw[sO l1.1 l1.2]at M;exact M.push hk
 by_cases h1:na-1=0
 .rw[vh (by rw[h1];rfl)];exact az ⟨hst,.inl ⟨_,Eq.refl _,xN M2 (by rw[h1];intro y _ z hz;cases hz)⟩⟩
 .rw[vm (by simpa using h1)];have I2:HiI it key pa pb T (na-1) nb (aQ it (po.push (pa.getD (na-1) 0))):=⟨⟨_,Eq.refl _,M2⟩,⟨by omega,by omega⟩,l2⟩;by_cases h2:(decide (k<7)&&decide (k1<7))=Z7
  .rw[vh h2];exact az ⟨hst,.inr ⟨Eq.refl _,I2,by show na-1+nb<=up;omega⟩⟩
  .rw[vm h2];exact az ⟨hst,Eq.refl _,I2,by show na-1+nb<=up;omega⟩
theorem zp0 (L:LtOk prog w A E s κ it n key)(ha:AllIn n pa)(hb:AllIn n pb)(sb:SrL key pb.toList)(hz:∀y∈pa.toList,key (pb.getD 0 0)<=key y){st0 st:dm}(hst:SmS st0 st)(hs:i7 st=κ){po:Array Nat}{na nb up:Nat}(l1:1<=na/\na<=pa.size)(l2:2<=nb/\nb<=pb.size)(hup:na+nb<=up)
  (M:Mg (iV key) T po.toList (bP pa na) (bP pb nb)) (hk:∀z∈bP pa na,key z<=key (pb.getD (nb-1) 0)) (g k bc:Nat):
  wpS (model prog w) A E s (xK (aQ it pa) (aQ it pb) na nb (aQ it po) g k bc) (DD it key pa pb T up st0) st:=by
 obtain⟨l3,l4⟩:=l2;unfold xK;rw[fZ (by omega)];refine a7 (az ?_);rw[qM];have M2:Mg (iV key) T (po.push (pb.getD (nb-1) 0)).toList (bP pa na) (bP pb (nb-1)):=by rw[sO (p:=pb) (k:=nb) (by omega) l4]at M;exact(M.swap.push hk).swap
 by_cases h1:nb-1=1
 .rw[vh (by rw[h1];rfl)];exact az ⟨hst,.inl ⟨_,Eq.refl _,zZ M2 (by rw[h1];exact z4 hz (by omega))⟩⟩
 .rw[vm (by simpa using h1),fZ (by omega)];refine a7 (az (a7 (z2h L (ha.get _) hb (by omega) (by omega) (zQ sb (by omega)) hs λr hr r1 r2=>?_)))
  dsimp only
  have dn:∀z∈bP pb r,key z<=key (pa.getD (na-1) 0):=λz dG=>by obtain⟨j,hj,rfl⟩:=DC (by omega) dG;have:=r1 j hj;unfold ByB Kp' at this;simp only[if_true,decide_eq_true_iff,c0]at this;omega
  by_cases h2:nb-1-r>0
  .rw[vh h2];have M3:Mg (iV key) T (po.push (pb.getD (nb-1) 0)++(pb.extract r (nb-1)).reverse).toList (bP pa na) (bP pb r):=by rw[bq];rw[Ie (p:=pb) hr (by omega)]at M2;refine M2.xF λy hy z dG=>?_;obtain⟨j,DE,vB,rfl⟩:=Ig (by omega) hy;have:=r2 j DE vB;unfold ByB Kp' at this;simp only[if_true,decide_eq_false_iff_not,c0]at this;have h4:=M2.sa;rw[sO l1.1 l1.2]at h4 dG;have:=z0 h4 z dG;show key z<=_;omega
   rw[iI,zW,jH];by_cases h3:r=1
   .rw[vh (by rw[h3];rfl)];exact az ⟨hst,.inl ⟨_,Eq.refl _,zZ M3 (by rw[h3];exact z4 hz (by omega))⟩⟩
   .rw[vm (by simpa using h3)];by_cases h4:r=0
    .rw[vh (by rw[h4];rfl)];exact az ⟨hst,.inl ⟨_,Eq.refl _,xN M3 (by rw[h4];intro y hy;cases hy)⟩⟩
    .rw[vm (by simpa using h4)];exact zq0 hst l1 ⟨by omega,by omega⟩ (by omega) M3 dn _ _ _
  .rw[vm h2];have e:r=nb-1:=by omega
   subst e;exact zq0 hst l1 ⟨by omega,by omega⟩ (by omega) M2 dn _ _ _
theorem zqb (L:LtOk prog w A E s κ it n key)(ha:AllIn n pa)(hb:AllIn n pb)(sa:SrL key pa.toList)(sb:SrL key pb.toList)(hz:∀y∈pa.toList,key (pb.getD 0 0)<=key y){st0 st:dm}(hst:SmS st0 st)(hs:i7 st=κ){o:KA}{na nb up:Nat}(hup:na+nb<=up)
  (I:HiI it key pa pb T na nb o) (g ac bc:Nat):
  wpS (model prog w) A E s (xM (aQ it pa) (aQ it pb) na nb o g ac bc) (DD it key pa pb T up st0) st:=by
 obtain⟨⟨po,rfl,M⟩,⟨l1,l2⟩,l3,l4⟩:=I;unfold xM;rw[zJ];refine a7 (jv ?_);have eG:=hst.trans (SmS.zL st g);generalize fY st g=eZ at eG;have mD:i7 eZ=κ:=by rw[eG.1,<-hst.1];exact hs
 rw[fZ (by omega)];refine a7 (az (a7 (z2h L (hb.get _) ha (by omega) (by omega) (zQ sa (by omega)) mD λr hr r1 r2=>?_)))
 dsimp only
 have dn:∀z∈bP pa r,key z<=key (pb.getD (nb-1) 0):=λz dG=>by obtain⟨j,hj,rfl⟩:=DC (by omega) dG;have:=r1 j hj;unfold ByB Kp' at this;simp only[cf,if_false,decide_eq_true_iff,c0]at this;omega
 by_cases h2:na-r>0
 .rw[vh h2];have M3:Mg (iV key) T (po++(pa.extract r na).reverse).toList (bP pa r) (bP pb nb):=by rw[bq];rw[Ie (p:=pa) hr l2]at M;refine M.pA λy hy z dG=>?_;obtain⟨j,DE,vB,rfl⟩:=Ig l2 hy;have:=r2 j DE vB;unfold ByB Kp' at this;simp only[cf,if_false,decide_eq_false_iff_not,c0]at this;have h4:=M.sb;rw[sO (p:=pb) (k:=nb) (by omega) l4]at h4 dG;have:=z0 h4 z dG;show key z<=_;omega
  rw[iI,zW,jH];by_cases h4:r=0
  .rw[vh (by rw[h4];rfl)];exact az ⟨eG,.inl ⟨_,Eq.refl _,xN M3 (by rw[h4];intro y _ z hz;cases hz)⟩⟩
  .rw[vm (by simpa using h4)];exact zp0 L ha hb sb hz eG mD ⟨by omega,by omega⟩ ⟨l3,l4⟩ (by omega) M3 dn _ _ _
 .rw[vm h2];have e:r=na:=by omega
  subst e;exact zp0 L ha hb sb hz eG mD ⟨l1,l2⟩ ⟨l3,l4⟩ hup M dn _ _ _
theorem zdt (L:LtOk prog w A E s κ it n key)(ha:AllIn n pa)(hb:AllIn n pb)(a1:1<=pa.size)(b1:1<=pb.size)(sa:SrL key pa.toList)(sb:SrL key pb.toList)
  (hz:∀y∈pa.toList,key (pb.getD 0 0)<=key y) (h0:∀y∈pb.toList,key y<=key (pa.getD (pa.size-1) 0)) {st:dm} (hs:i7 st=κ) {Q:Array Keyed->dm->Prop}
  (h:∀o st',FinK it key (pa.toList++pb.toList) o->SmS st st'->Q o st'):wpS (model prog w) A E s (zI (aQ it pa) (aQ it pb)) Q st:=by
 rw[PM];refine a7 (pj (ip ⟨Eq.refl _,?_⟩));rw[gO,gO,fZ (by omega)];refine a7 (az ?_);have M0:Mg (iV key) (pa.toList++pb.toList) [] (bP pa pa.size) (bP pb pb.size):=⟨by rw[zV,zV];exact List.Perm.append (ll _) (ll _),List.Pairwise.nil,by rw[zV];exact Ih sa,by rw[zV];exact Ih sb,(λ_ h=>by cases h),λ_ h=>by cases h⟩;have M1:Mg (iV key) (pa.toList++pb.toList) (#[pa.getD (pa.size-1) 0]:Array Nat).toList (bP pa (pa.size-1)) (bP pb pb.size):=by rw[sO (p:=pa) a1 (ah _)]at M0;exact M0.push (po:=#[]) λz hz=>h0 z (je (l6.mp hz))
 have e0:(#[kas_item it (pa.getD (pa.size-1) 0)]:KA)=aQ it #[pa.getD (pa.size-1) 0]:=by simp[aQ]
 rw[e0];by_cases h1:pa.size-1=0
 .rw[vh (by rw[h1];rfl)];exact az (h _ _ (xN M1 (by rw[h1];intro y _ z hz;cases hz)) (SmS.rfl st))
 rw[vm (by simpa using h1)];by_cases h2:pb.size=1
 .rw[vh (by rw[h2];rfl)];exact az (h _ _ (zZ M1 (by rw[h2];exact z4 hz b1)) (SmS.rfl st))
 rw[vm (by simpa using h2)];refine a7 (lj ?_);refine a7 (gc (fy (I:=λx c st'=>SmS st st'/\c.1=Z8/\HiI it key pa pb (pa.toList++pb.toList) c.2.1 c.2.2.1 c.2.2.2.1/\c.2.1+c.2.2.1+x+1<=pa.size+pb.size) (Q:=λc st'=>SmS st st'/\∃z,c.1=Z9 z/\FinK it key (pa.toList++pb.toList) z) ?_ ?_ ⟨SmS.rfl st,Eq.refl _,⟨⟨_,Eq.refl _,M1⟩,⟨by show 1<=pa.size-1;omega,by show pa.size-1<=pa.size;omega⟩,by show 2<=pb.size;omega,ah _⟩,by show pa.size-1+pb.size+0+1<=_;omega⟩) ?_)
 .rintro x c dH _ hx ⟨hm,hc,I,hlo⟩
  refine a7 (gc (fy (I:=λy d st'=>SmS st st'/\d.1=Z8/\HiI it key pa pb (pa.toList++pb.toList) d.2.1 d.2.2.1 d.2.2.2.1/\d.2.1+d.2.2.1+(if y=0 then x+1 else x+2)<=pa.size+pb.size) (Q:=λd st'=>SmS st st'/\Ii it key pa pb (pa.toList++pb.toList) (pa.size+pb.size-x-1) d) ?_ ?_ ⟨hm,Eq.refl _,I,by rw[vh (Eq.refl _)];exact hlo⟩) ?_)
  .rintro y d eZ _ hy ⟨hm2,hd,I2,eW⟩
   have mD:i7 eZ=κ:=by rw[hm2.1];exact hs
   have xH:d.2.1+d.2.2.1+(x+1)<=pa.size+pb.size:=by split at eW<;>omega
   refine gc (zse L ha hb hz mD I2 _ _ _) λr gV hr=>?_;obtain⟨rfl,hr⟩:=hr;cases r with
   |done c'=>
    refine⟨hm2,?_⟩;rcases hr with hr|⟨r1,r2,r3⟩
    .exact .inl hr
    .exact .inr ⟨r1,r2,by omega⟩
   |yield c'=>exact⟨hm2,hr.1,hr.2.1,by have:=hr.2.2;rw[vm (by omega)];omega⟩
  .rintro d eZ ⟨hm2,hd,I2,eW⟩
   rw[vm (by omega)]at eW;exact⟨hm2,.inr ⟨hd,I2,by omega⟩⟩
  .rintro d eZ ⟨hm2,hd⟩
   obtain⟨o,d⟩:=d;rcases hd with⟨z,kH,kI⟩|⟨hn,I2,eW⟩
   .cases kH;exact az ⟨hm2,z,Eq.refl _,kI⟩
   .cases hn
    dsimp only at I2 eW ⊢
    refine a7 (pj (ip ⟨Eq.refl _,?_⟩));refine a7 (gc (fy (I:=λ_ e st'=>SmS st st'/\e.1=Z8/\HiI it key pa pb (pa.toList++pb.toList) e.2.1 e.2.2.1 e.2.2.2.1/\e.2.1+e.2.2.1<=pa.size+pb.size-x-2) (Q:=λe st'=>SmS st st'/\Ij it key pa pb (pa.toList++pb.toList) (pa.size+pb.size-x-2) e) ?_ ?_ ⟨hm2,Eq.refl _,I2,by show d.1+d.2.1<=_;omega⟩) ?_)
    .rintro y e gV _ hy ⟨gP,he,I3,eI⟩
     have zS:i7 gV=κ:=by rw[gP.1];exact hs
     split
     .exact gc (zqb L ha hb sa sb hz gP zS eI I3 _ _ _) λr zT hr=>by cases r<;>exact hr
     .exact gc (zqb L ha hb sa sb hz gP zS eI I3 _ _ _) λr zT hr=>by cases r<;>exact hr
    .rintro e gV ⟨gP,he,I3,eI⟩
     exact⟨gP,.inr ⟨he,I3,eI⟩⟩
    .rintro e gV ⟨gP,he⟩
     obtain⟨o,e⟩:=e;rcases he with⟨z,kH,kI⟩|⟨hn,I3,eI⟩
     .cases kH;exact az ⟨gP,z,Eq.refl _,kI⟩
     .cases hn
      dsimp only at I3 eI ⊢
      rw[zJ];have:=I2.la;have:=I2.lb;refine a7 (jv (az ⟨gP.trans (SmS.zL gV _),Eq.refl _,I3,by show e.1+e.2.1+(x+1)+1<=_;omega⟩))
 .rintro c dH ⟨hm,hc,I,hlo⟩
  have:=I.la;have:=I.lb;omega
 .rintro c dH ⟨hm,z,kH,kI⟩
  obtain⟨o,c⟩:=c;cases kH;exact az (h z dH kI hm)
end
section
variable {prog:bu}{w:World}{A:fq}{E:Value->ak->Prop}{s:ak}{κ:mf}{it:Array Keyed}{n:Nat}{key:Nat->Nat}
structure Stn (κ:mf)(it:KA)(n:Nat)(pd:Array (Nat×Nat×Nat))(p:Array Nat)(st:dm):Prop where
 ki:i7 st=κ
 ar:arrOf st=aQ it p
 pe:du st=pd
 fa:j7 st=Z8
 al:AllIn n p
variable {pd:Array (Nat×Nat×Nat)}{p:Array Nat}{st:dm}
theorem z75 (L:LtOk prog w A E s κ it n key)(S:Stn κ it n pd p st){i j:Nat}(hi:i<p.size)(hj:j<p.size){Q:Option Bool->dm->Prop}(h:Q (Z9 (decide (Kp' key p i<Kp' key p j))) st):
  wpS (model prog w) A E s (ltAt' i j) Q st:=by
 rw[ltAt'_eq];refine a7 (lj ?_);show wpS _ _ _ _ (do let x <-elem' (arrOf st) i;let y <-elem' (arrOf st) j;lt' x y) Q st;rw[S.ar,fZ hi,fZ hj];exact a7 (az (a7 (az (L _ _ (S.al.get _) (S.al.get _) _ _ S.ki h))))
theorem Stn.rev (S:Stn κ it n pd p st)(i j:Nat):Stn κ it n pd (kas_rev p i j) (vg st (mirror (arrOf st) i j ((j-i)/2))):=⟨S.ki,by show mirror (arrOf st) i j ((j-i)/2)=_;rw[S.ar];exact kas_swaps_map (kas_item it) (λk=>i+k) (λk=>j-1-k) _ p,S.pe,S.fa,S.al.rev i j⟩
theorem Stn.PQ (S:Stn κ it n pd p st)(i d:Nat):Stn κ it n pd (u8 p i d) (vg st (u8 (arrOf st) i d)):=⟨S.ki,by show u8 (arrOf st) i d=_;rw[S.ar];exact kas_swaps_map (kas_item it) (λk=>i-k) (λk=>i-k-1) _ p,S.pe,S.fa,S.al.perm (qr p i d)⟩
def Ris (key:Nat->Nat)(p:Array Nat)(lo m:Nat):Prop:=∀i j,i<=j->j<m->Kp' key p (lo+i)<=Kp' key p (lo+j)
def Dif (key:Nat->Nat)(p:Array Nat):Prop:=∀i j,i<j->j<p.size->Kp' key p i≠Kp' key p j
theorem Ris.one (key:Nat->Nat)(p:Array Nat)(lo:Nat):Ris key p lo 1:=λi j cM hj=>by
 have:i=j:=by omega
 subst this;exact ah _
theorem Ris.step {p:Array Nat}{lo m:Nat}(h:Ris key p lo m)(h1:1<=m)(hl:Kp' key p (lo+m-1)<=Kp' key p (lo+m)):Ris key p lo (m+1):=λi j cM hj=>by
 by_cases e:j=m
 .by_cases e2:i=m
  .subst e;subst e2;exact ah _
  .have :=h i (m-1) (by omega) (by omega);rw[show lo+(m-1)=lo+m-1 by omega]at this;subst e;omega
 .exact h i j cM (by omega)
abbrev AscS:=Option (Option Nat)×Nat
theorem zrm (L:LtOk prog w A E s κ it n key)(S:Stn κ it n pd p st){lo m nrem:Nat}(h1:1<=m)(hm:m<=nrem)(hz:lo+nrem<=p.size)(hr:Ris key p lo m){Q:AscS->dm->Prop}
  (h:∀m',m<=m'->m'<=nrem->Ris key p lo m'->(m'<nrem->Kp' key p (lo+m')<Kp' key p (lo+m'-1))->Q (Z8,m') st):
  wpS (model prog w) A E s (forIn [m:nrem] ((Z8,m):AscS) λ_ r=>do
   let x <-ltAt' (lo+r.2) (lo+r.2-1)
   match x with
   |some pC=>if pC=Z7 then pure (ForInStep.done (Z8,r.2))else pure (ForInStep.yield (Z8,r.2+1))
   |_=>pure (ForInStep.done (Z9 Z8,r.2))) Q st:=by
 refine gc (fy (I:=λx c st'=>st'=st/\c=(Z8,x)/\Ris key p lo x) (Q:=λc st'=>st'=st/\∃m',c=(Z8,m')/\m<=m'/\m'<=nrem/\Ris key p lo m'/\(m'<nrem->Kp' key p (lo+m')<Kp' key p (lo+m'-1))) ?_ ?_ ⟨rfl,rfl,hr⟩) ?_
 .rintro x c st' zA PR ⟨rfl,rfl,hr⟩
  dsimp only
  refine a7 (z75 L S (by omega) (by omega) ?_)
  dsimp only
  by_cases hc:Kp' key p (lo+x)<Kp' key p (lo+x-1)
  .rw[vh (vq hc)];exact az ⟨rfl,x,rfl,zA,by omega,hr,λ_=>hc⟩
  .rw[vm (by simpa using hc)];exact az ⟨rfl,rfl,hr.step (by omega) (by omega)⟩
 .rintro c st' ⟨rfl,rfl,hr⟩
  rw[show max m nrem=nrem by omega]at hr ⊢;exact⟨rfl,nrem,rfl,hm,ah _,hr,λz=>absurd z (cj _)⟩
 .rintro c st' ⟨rfl,m',rfl,a1,a2,a3,a4⟩
  exact h m' a1 a2 a3 a4
structure Rn (key:Nat->Nat)(p p':Array Nat)(lo m:Nat):Prop where
 pm:p'.Perm p
 ri:Ris key p' lo m
 un:∀k,k<lo->Kp' key p' k=Kp' key p k
theorem zae (L:LtOk prog w A E s κ it n key)(S:Stn κ it n pd p st){lo nrem:Nat}(h1:1<=nrem)(hz:lo+nrem<=p.size)(D:Dif key p){Q:Option Nat->dm->Prop}
  (h:∀m p' st',1<=m->m<=nrem->Stn κ it n pd p' st'->Rn key p p' lo m->Q (Z9 m) st'):wpS (model prog w) A E s (countRun' lo nrem) Q st:=by
 rw[countRun'_eq];refine a7 (zrm L S (ah 1) h1 hz (Ris.one _ _ _) λm DF hm2 hr hl=>?_)
 dsimp only
 by_cases e1:m=nrem
 .rw[vh (by rw[e1];exact beq_self_eq_true _)];exact az (h m p st DF hm2 S ⟨Array.Perm.refl _,hr,λ_ _=>rfl⟩)
 rw[vm (by simpa using e1)];by_cases e2:m>1
 .rw[vh e2];refine a7 (z75 L S (by omega) (by omega) ?_)
  dsimp only
  have h3:=hr 0 (m-1) (by omega) (by omega);have h4:=D (lo+0) (lo+(m-1)) (by omega) (by omega);rw[Nat.add_zero]at h3 h4;rw[show lo+(m-1)=lo+m-1 by omega]at h3 h4;rw[vh (vq (by omega))];exact az (h m p st DF hm2 S ⟨Array.Perm.refl _,hr,λ_ _=>rfl⟩)
 .rw[vm e2];have e3:m=1:=by omega
  subst e3;have hl:=hl (by omega);refine a7 (pj (ip ⟨rfl,?_⟩));refine a7 (gc (fy (I:=λx c st'=>st'=st/\c=(Z8,x,0)/\∀i j,i<j->j<x->Kp' key p (lo+j)<Kp' key p (lo+i)) (Q:=λc st'=>st'=st/\∃m,c=(Z8,m,0)/\2<=m/\m<=nrem/\∀i j,i<j->j<m->Kp' key p (lo+j)<Kp' key p (lo+i)) ?_ ?_ ⟨rfl,rfl,λi j cM hj=>?_⟩) ?_)
  .rintro x c st' zA PR ⟨rfl,rfl,hd⟩
   dsimp only
   refine a7 (z75 L S (by omega) (by omega) ?_)
   dsimp only
   by_cases hc:Kp' key p (lo+x)<Kp' key p (lo+x-1)
   .rw[vh (vq hc),vm (cj 0)];refine az ⟨rfl,rfl,λi j cM hj=>?_⟩;by_cases e:j=x
    .subst e;by_cases e2:i=j-1
     .subst e2;rw[show lo+(j-1)=lo+j-1 by omega];exact hc
     .have :=hd i (j-1) (by omega) (by omega);rw[show lo+(j-1)=lo+j-1 by omega]at this;omega
    .exact hd i j cM (by omega)
   .rw[vm (by simpa using hc)];have h4:=D (lo+x-1) (lo+x) (by omega) (by omega);refine a7 (z75 L S (by omega) (by omega) ?_)
    dsimp only
    rw[vh (vq (by omega))];exact az ⟨rfl,x,rfl,by omega,by omega,hd⟩
  .rintro c st' ⟨rfl,rfl,hd⟩
   rw[show max (1+1) nrem=nrem by omega]at hd ⊢;exact⟨rfl,nrem,rfl,by omega,ah _,hd⟩
  .have e1:j=1:=by omega
   have e2:i=0:=by omega
   subst e1;subst e2;exact hl
  .rintro c st' ⟨rfl,m,rfl,DF,hm2,hd⟩
   dsimp only
   rw[vm (cj 0),reverseSlice'_eq];refine a7 (jv ?_);have S2:=S.rev lo (lo+m);have kI:(kas_rev p lo (lo+m)).size=p.size:=xu _ _ _
   have z5:Ris key (kas_rev p lo (lo+m)) lo m:=λi j cM hj=>by
    rw[qL (by omega),qL (by omega),vh (by omega),vh (by omega)];by_cases e:i=j
    .subst e;exact ah _
    .have :=hd (m-1-j) (m-1-i) (by omega) (by omega);rw[show lo+(lo+m)-1-(lo+i)=lo+(m-1-i) by omega,show lo+(lo+m)-1-(lo+j)=lo+(m-1-j) by omega];omega
   have un:∀k,k<lo->Kp' key (kas_rev p lo (lo+m)) k=Kp' key p k:=λk hk=>by rw[qL (by omega),vm (by omega)]
   refine a7 (zrm L S2 (by omega) hm2 (by rw[kI];exact hz) z5 λm' a1 a2 a3 _=>?_);exact az (h m' _ _ (by omega) a2 S2 ⟨vv _ _ _,a3,un⟩)
theorem znh (L:LtOk prog w A E s κ it n key)(S:Stn κ it n pd p st){lo m ok:Nat}(h1:1<=ok)(hok:ok<=m)(hz:lo+m<=p.size)(hr:Ris key p lo ok){Q:Bool->dm->Prop}
  (h:∀p' st',Stn κ it n pd p' st'->Rn key p p' lo m->Q Z7 st'):wpS (model prog w) A E s (ut lo m ok) Q st:=by
 rw[binarySort'_eq];refine a7 (gc (fy (I:=λx c st'=>c=(Z8,())/\∃p',Stn κ it n pd p' st'/\Rn key p p' lo x) (Q:=λc st'=>c=(Z8,())/\∃p',Stn κ it n pd p' st'/\Rn key p p' lo m) ?_ ?_ ⟨rfl,p,S,Array.Perm.refl _,by rw[show max ok 1=ok by omega];exact hr,λ_ _=>rfl⟩) ?_)
 .rintro k c dH Vl Ik ⟨rfl,q,S1,R1⟩
  have hq:q.size=p.size:=R1.pm.size_eq;refine a7 (gc (fy (I:=λx c st'=>st'=dH/\∃l r,c=(Z8,l,r)/\l<=r/\r<=k/\r-l<=k-x/\(∀i,i<l->Kp' key q (lo+i)<=Kp' key q (lo+k))/\(∀i,r<=i->i<k->Kp' key q (lo+k)<=Kp' key q (lo+i))) (Q:=λc st'=>st'=dH/\∃l r,c=(Z8,l,r)/\l<=k/\(∀i,i<l->Kp' key q (lo+i)<=Kp' key q (lo+k))/\(∀i,l<=i->i<k->Kp' key q (lo+k)<=Kp' key q (lo+i))) ?_ ?_ ⟨rfl,0,k,rfl,by omega,by omega,by omega,λi hi=>by omega,λi h1 h2=>by omega⟩) ?_)
  .rintro x c st' _ hx ⟨rfl,l,r,rfl,b1,b2,b3,b4,b5⟩
   dsimp only
   by_cases xH:l ≥ r
   .rw[vh xH];have:l=r:=by omega
    subst this;exact az ⟨rfl,l,l,rfl,b2,b4,b5⟩
   .rw[vm xH];refine a7 (z75 L S1 (by omega) (by omega) ?_)
    dsimp only
    by_cases hl:Kp' key q (lo+k)<Kp' key q (lo+(l+r)/2)
    .rw[vh (vq hl)];exact az ⟨rfl,l,_,rfl,by omega,by omega,by omega,b4,λi i1 i2=>by have:=R1.ri ((l+r)/2) i i1 i2;omega⟩
    .rw[vm (by simpa using hl)];exact az ⟨rfl,_,r,rfl,by omega,by omega,by omega,λi i1=>by have:=R1.ri i ((l+r)/2) (by omega) (by omega);omega,b5⟩
  .rintro c st' ⟨rfl,l,r,rfl,b1,b2,b3,b4,b5⟩
   have:l=r:=by omega
   subst this;exact⟨rfl,l,l,rfl,b2,b4,b5⟩
  .rintro c st' ⟨rfl,l,r,rfl,b1,b4,b5⟩
   show wpS _ _ _ _ (do moveDown' (lo+k) (lo+l);pure (ForInStep.yield (Z8,()))) _ _;rw[moveDown'_eq];refine a7 (jv (az ⟨rfl,_,S1.PQ _ _,(qr _ _ _).trans R1.pm,λi j cM hj=>?_,λi hi=>?_⟩))
   .rw[xr (by omega) (by omega),xr (by omega) (by omega),show lo+k-(lo+k-(lo+l))=lo+l by omega];have sh:∀i,lo+i-1=lo+(i-1)\/i=0:=λi=>by omega
    by_cases i1:lo+i=lo+l
    .rw[vh i1];by_cases j1:lo+j=lo+l
     .rw[vh j1];exact ah _
     .rw[vm j1,vh (by omega),show lo+j-1=lo+(j-1) by omega];exact b5 _ (by omega) (by omega)
    .rw[vm i1];by_cases i2:lo+l<lo+i/\lo+i<=lo+k
     .rw[vh i2,vm (by omega),vh (by omega),show lo+i-1=lo+(i-1) by omega,show lo+j-1=lo+(j-1) by omega];exact R1.ri _ _ (by omega) (by omega)
     .rw[vm i2];by_cases j1:lo+j=lo+l
      .rw[vh j1];exact b4 i (by omega)
      .rw[vm j1];by_cases j2:lo+l<lo+j/\lo+j<=lo+k
       .rw[vh j2,show lo+j-1=lo+(j-1) by omega];exact R1.ri _ _ (by omega) (by omega)
       .rw[vm j2];exact R1.ri _ _ cM (by omega)
   .rw[xr (by omega) (by omega),vm (by omega),vm (by omega)];exact R1.un i hi
 .rintro c dH ⟨hc,q,S1,R1⟩
  rw[show max (max ok 1) m=m by omega]at R1;exact⟨hc,q,S1,R1⟩
 .rintro c dH ⟨rfl,q,S1,R1⟩
  exact az (h q dH S1 R1)
end
theorem PU (i:Nat):vb i=(do
 let s <-get
 let(Z9 (sa,na,power),Z9 (sb,nb,_)):=((du s)[i]?,(du s)[i+1]?)|om "internal:list.sort.pending"
 set (n0 s (((du s).setIfInBounds i (sa,na+nb,power)).eraseIdxIfInBounds (i+1)))
 let Z9 k <-kX Z6 (<-elem' (arrOf s) sb) (arrOf s) sa na 0|return Z6
 let(sa,na):=(sa+k,na-k)
 if na==0 then return Z7
 let Z9 nb <-kX Z7 (<-elem' (arrOf s) (sa+na-1)) (arrOf s) sb nb (nb-1)|return Z6
 if nb==0 then return Z7
 let x:=(arrOf s).extract sa sb
 let y:=(arrOf s).extract sb (sb+nb)
 let merged <- if na<=nb then zH x y else zI x y
 modify λs=>vg s (merged.toList.zipIdx.foldl (λa (p,j)=>a.setIfInBounds (sa+j) p) (arrOf s))
 return (j7 (<-get)).isNone):=rfl
section
variable {prog:bu}{w:World}{A:fq}{E:Value->ak->Prop}{s:ak}{κ:mf}{it:Array Keyed}{n:Nat}{key:Nat->Nat}
variable {p:Array Nat}{st:dm}
theorem PV {σ:Type}{M:Model}{st st':σ}{Q:PUnit->σ->Prop}(h:Q ⟨⟩ st'):wpS M A E s (set st':StateT σ Sem PUnit) Q st:=by unfold wpS;rw[StateT.run_set];exact av ⟨rfl,h⟩
theorem Il {α:Type}(sa:Nat):∀(l:List α) (k:Nat) (a:Array α) (t:Nat),sa+k+l.length<=a.size->((l.zipIdx k).foldl (λa (q:α×Nat)=>a.setIfInBounds (sa+q.2) q.1) a)[t]?=if sa+k<=t/\t<sa+k+l.length then l[t-(sa+k)]? else a[t]?
 | [],k,a,t,_=>by rw[vm (by rw[List.length_nil];omega)];rfl
 |x::l,k,a,t,h=>by
  rw[bo]at h;rw[List.zipIdx_cons,kt,Il sa l (k+1) _ t (by rw[oy];omega),bo];by_cases e:t=sa+k
  .subst e;rw[vm (by omega),vh (by omega),lm];simp[show sa+k<a.size by omega]
  .by_cases c:sa+(k+1)<=t/\t<sa+(k+1)+l.length
   .rw[vh c,vh (by omega),show t-(sa+k)=(t-(sa+(k+1)))+1 by omega];rfl
   .rw[vm c,vm (by omega)];simp[mw,Ne.symm e]
theorem PX {α:Type}{a m:Array α}{sa:Nat}(h:sa+m.size<=a.size):(m.toList.zipIdx.foldl (λa (q:α×Nat)=>a.setIfInBounds (sa+q.2) q.1) a)=a.extract 0 sa++m++a.extract (sa+m.size) a.size:=by
 apply Array.ext_getElem?;intro t;rw[Il sa m.toList 0 a t (by rw[aw];omega),aw,Nat.add_zero];have s1:(a.extract 0 sa).size=sa:=by rw[jw];omega
 rw[qh,qh];rw[ot,s1];by_cases c1:t<sa
 .rw[vm (by omega),vh (by omega),vh c1];simp[p9,c1];omega
 .by_cases c2:t<sa+m.size
  .rw[vh (by omega),vh c2,vm c1];simp
  .rw[vm (by omega),vm c2];rw[p9];by_cases c3:t<a.size
   .rw[vh (by omega),show sa+m.size+(t-(sa+m.size))=t by omega]
   .rw[vm (by omega)];simp[show a.size<=t by omega]
theorem sQ {lo m:Nat}(h:Ris key p lo m)(hz:lo+m<=p.size):SrL key (p.extract lo (lo+m)).toList:=by
 show f9 (kle key) _;rw[d8];intro i j hi hj cM;rw[aw,jw]at hi hj;have:=h i j (by omega) (by omega);unfold Kp' at this;have e:∀i (hi:i<(p.extract lo (lo+m)).toList.length),(p.extract lo (lo+m)).toList[i]=p.getD (lo+i) 0:=λi hi=>by rw[aw,jw]at hi;simp[g8,show lo+i<p.size by omega]
 show key _<=key _;rw[e,e];exact this
theorem zcc (L:LtOk prog w A E s κ it n key){n1 n2 pw:Nat}(S:Stn κ it n #[(0,n1,pw),(n1,n2,0)] p st)(h1:1<=n1)(h2:1<=n2)(hz:n1+n2=p.size)(r1:Ris key p 0 n1)(r2:Ris key p n1 n2){Q:Bool->dm->Prop}
  (h:∀p' st',Stn κ it n #[(0,n1+n2,pw)] p' st'->p'.Perm p->SrL key p'.toList->Q Z7 st'):wpS (model prog w) A E s (vb 0) Q st:=by
 rw[PU];refine a7 (lj ?_);rw[S.pe];have e1:(#[(0,n1,pw),(n1,n2,0)]:Array (Nat×Nat×Nat))[0]?=Z9 (0,n1,pw):=rfl;have e2:(#[(0,n1,pw),(n1,n2,0)]:Array (Nat×Nat×Nat))[0+1]?=Z9 (n1,n2,0):=rfl;rw[e1,e2]
 dsimp only
 have e3:((#[(0,n1,pw),(n1,n2,0)]:Array (Nat×Nat×Nat)).setIfInBounds 0 (0,n1+n2,pw)).eraseIdxIfInBounds (0+1)=#[(0,n1+n2,pw)]:=by apply pp.mp;simp[Array.eraseIdxIfInBounds]
 rw[e3];refine a7 (PV ?_);have S1:Stn κ it n #[(0,n1+n2,pw)] p (n0 st #[(0,n1+n2,pw)]):=⟨S.ki,S.ar,rfl,S.fa,S.al⟩;rw[S.ar,fZ (by omega)];refine a7 (az (a7 (z2h L (S.al.get _) S.al (by omega) (by omega) (by intro i j cM hj;exact r1 i j cM hj) S1.ki λk hk k1 k2=>?_)))
 dsimp only
 have whole:(p.extract 0 n1).toList++(p.extract n1 (n1+n2)).toList=p.toList:=by rw[iW,hz,mC,d6]
 have s1:SrL key (p.extract 0 n1).toList:=by have:=sQ r1 (by omega);rwa [c0]at this
 have s2:=sQ r2 (by omega);have bk:∀i,i<k->Kp' key p i<=Kp' key p n1:=λi hi=>by have:=k1 i hi;unfold ByB at this;simp only[cf,if_false,decide_eq_true_iff,c0]at this;exact this
 have up:∀j,j<n2->Kp' key p n1<=Kp' key p (n1+j):=λj hj=>r2 0 j (e8 _) hj;rw[c0];by_cases c1:n1-k=0
 .rw[vh (by rw[c1];rfl)];refine az (h p _ S1 (Array.Perm.refl _) ?_);rw[<-whole];refine dr.mpr ⟨s1,s2,λx hx y hy=>?_⟩;rw[show n1=0+n1 by omega]at hx;obtain⟨i,hi,rfl⟩:=pB (by omega) hx;obtain⟨j,hj,rfl⟩:=pB (by omega) hy;have q1:=bk i (by omega);have q2:=up j hj;unfold Kp' at q1 q2;show key (p.getD (0+i) 0)<=key (p.getD (n1+j) 0);rw[c0];omega
 rw[vm (by simpa using c1),show k+(n1-k)-1=n1-1 by omega,fZ (by omega)];refine a7 (az (a7 (z2h L (S.al.get _) S.al (by omega) (by omega) r2 S1.ki λr hr g1 g2=>?_)))
 dsimp only
 have DG:∀j,j<r->Kp' key p (n1+j)<Kp' key p (n1-1):=λj hj=>by have:=g1 j hj;unfold ByB at this;simp only[if_true,decide_eq_true_iff]at this;exact this
 have z6:∀j,r<=j->j<n2->Kp' key p (n1-1)<=Kp' key p (n1+j):=λj j1 j2=>by have:=g2 j j1 j2;unfold ByB at this;simp only[if_true,decide_eq_false_iff_not]at this;unfold Kp' at this ⊢;omega
 have xO:∀i,i<n1->Kp' key p i<=Kp' key p (n1-1):=λi hi=>by
  have:=r1 i (n1-1) (by omega) (by omega)
  rwa [c0,c0]at this
 by_cases c2:r=0
 .rw[vh (by rw[c2];rfl)];refine az (h p _ S1 (Array.Perm.refl _) ?_);rw[<-whole];refine dr.mpr ⟨s1,s2,λx hx y hy=>?_⟩;rw[show n1=0+n1 by omega]at hx;obtain⟨i,hi,rfl⟩:=pB (by omega) hx;obtain⟨j,hj,rfl⟩:=pB (by omega) hy;have q1:=xO i hi;have q2:=z6 j (by omega) hj;unfold Kp' at q1 q2;show key (p.getD (0+i) 0)<=key (p.getD (n1+j) 0);rw[c0];omega
 rw[vm (by simpa using c2)];rw[iI,iI]
 let X:=p.extract k n1
 let Y:=p.extract n1 (n1+r)
 have zX:X.size=n1-k:=by show(p.extract k n1).size=_;rw[jw];omega
 have zY:Y.size=r:=by show(p.extract n1 (n1+r)).size=_;rw[jw];omega
 have gX:∀j,j<n1-k->X.getD j 0=p.getD (k+j) 0:=λj hj=>by simp[X,g8,show k+j<p.size by omega,show j<min n1 p.size-k by omega]
 have gY:∀j,j<r->Y.getD j 0=p.getD (n1+j) 0:=λj hj=>by simp[Y,g8,show n1+j<p.size by omega,show j<min (n1+r) p.size-n1 by omega]
 have DH:k+(n1-k)=n1:=by omega
 have mX:∀{y},y∈X.toList->∃j,j<n1-k/\y=p.getD (k+j) 0:=λ{y} hy=>pB (i:=k) (k:=n1-k) (by omega) (by rw[DH];exact hy);have mY:∀{y},y∈Y.toList->∃j,j<r/\y=p.getD (n1+j) 0:=λ{y} hy=>pB (by omega) hy;have aX:AllIn n X:=⟨S.al.1,λx hx=>by obtain⟨j,_,rfl⟩:=mX (by simpa using hx);exact S.al.get _⟩;have aY:AllIn n Y:=⟨S.al.1,λx hx=>by obtain⟨j,_,rfl⟩:=mY (by simpa using hx);exact S.al.get _⟩
 have sX:SrL key X.toList:=by
  have:Ris key p k (n1-k):=λi j cM hj=>by
   have:=r1 (k+i) (k+j) (by omega) (by omega)
   rwa [c0,c0]at this
  have:=sQ this (by omega)
  rwa [DH]at this
 have sY:SrL key Y.toList:=sQ (lo:=n1) (m:=r) (λi j cM hj=>r2 i j cM (by omega)) (by omega);have bX:∀y∈X.toList,key (Y.getD 0 0)<=key y:=λy hy=>by obtain⟨j,hj,rfl⟩:=mX hy;have:=k2 (k+j) (by omega) (by omega);unfold ByB Kp' at this;simp only[cf,if_false,decide_eq_false_iff_not,c0]at this;rw[gY 0 (by omega)];show key (p.getD n1 0)<=_;omega
 have bY:∀y∈Y.toList,key y<=key (X.getD (X.size-1) 0):=λy hy=>by obtain⟨j,hj,rfl⟩:=mY hy;have:=DG j hj;unfold Kp' at this;rw[zX,gX _ (by omega),show k+(n1-k-1)=n1-1 by omega];omega
 have fin:∀o st',FinK it key (X.toList++Y.toList) o->SmS (n0 st #[(0,n1+n2,pw)]) st'->wpS (model prog w) A E s (do
   modify λs=>vg s (o.toList.zipIdx.foldl (λa (q:Keyed×Nat)=>a.setIfInBounds (k+q.2) q.1) (arrOf s))
   let s <-get
   pure (j7 s).isNone) Q st':=by
  rintro o st' ⟨po,rfl,pm,so⟩ sm
  have zo:po.size=n1-k+r:=by have:=pm.length_eq;rw[ao,aw,aw,aw,zX,zY]at this;exact this
  refine a7 (jv (a7 (lj (az ?_))));have DI:arrOf st'=aQ it p:=by rw[sm.2.1];exact S.ar
  have hfa:j7 st'=none:=by rw[sm.2.2.2];exact S.fa
  have ew:((aQ it po).toList.zipIdx.foldl (λa (q:Keyed×Nat)=>a.setIfInBounds (k+q.2) q.1) (arrOf st'))=aQ it (p.extract 0 k++po++p.extract (k+po.size) p.size):=by rw[DI,PX (by rw[gO,gO];omega),iI,iI,jH,jH,gO,gO]
  have ef:(j7 (vg st' ((aQ it po).toList.zipIdx.foldl (λa (q:Keyed×Nat)=>a.setIfInBounds (k+q.2) q.1) (arrOf st')))).isNone=true:=by show(j7 st').isNone=Z7;rw[hfa];rfl
  rw[ef]
  have tl:p.toList=(p.extract 0 k).toList++(X.toList++Y.toList)++(p.extract (k+po.size) p.size).toList:=by
   have e1:p.toList=(p.extract 0 k).toList++p.toList.drop k:=by rw[iW,d6]
   have e2:p.toList.drop k=X.toList++p.toList.drop n1:=by
    have:=zM (p:=p) (i:=k) (k:=n1-k) (by omega)
    rwa [DH]at this
   have e3:p.toList.drop n1=Y.toList++p.toList.drop (n1+r):=zM (by omega);rw[mC,zo,show k+(n1-k+r)=n1+r by omega,c9,c9,<-e3,<-e2];exact e1
  have pD:(p.extract 0 k++po++p.extract (k+po.size) p.size).Perm p:=by
   rw[ka,bq,bq]
   conv=>rhs;rw[tl]
   exact List.Perm.append_right _ (qg _ pm)
  refine h _ _ ⟨sm.1.trans S1.ki,ew,sm.2.2.1,hfa,S.al.perm pD⟩ pD ?_;rw[bq,bq];have mP:∀{y},y∈(p.extract 0 k).toList->∃j,j<k/\y=p.getD j 0:=λ{y} hy=>by rw[show k=0+k by omega]at hy;obtain⟨j,hj,rfl⟩:=pB (by omega) hy;exact⟨j,hj,by rw[c0]⟩
  have mZ:∀{y},y∈(p.extract (k+po.size) p.size).toList->∃j,r<=j/\j<n2/\y=p.getD (n1+j) 0:=λ{y} hy=>by rw[mC,zo]at hy;obtain⟨j,hj,rfl⟩:=DA hy;exact⟨r+j,by omega,by omega,by congr 1;omega⟩
  have sP:SrL key (p.extract 0 k).toList:=by
   have:=sQ (lo:=0) (m:=k) (key:=key) (p:=p) (λi j cM hj=>r1 i j cM (by omega)) (by omega)
   rwa [c0]at this
  have sZ:SrL key (p.extract (k+po.size) p.size).toList:=by
   have:=sQ (lo:=n1+r) (m:=n2-r) (key:=key) (p:=p) (λi j cM hj=>by
    have:=r2 (r+i) (r+j) (by omega) (by omega)
    rwa [<-Nat.add_assoc,<-Nat.add_assoc]at this) (by omega)
   rwa [show n1+r+(n2-r)=p.size by omega,show n1+r=k+po.size by omega]at this
  refine dr.mpr ⟨dr.mpr ⟨sP,so,λx hx y hy=>?_⟩,sZ,λx hx y hy=>?_⟩
  .obtain⟨i,hi,rfl⟩:=mP hx;have q1:=bk i hi;rcases d9.mp (pm.mem_iff.mp hy)with hy|hy
   .obtain⟨j,hj,rfl⟩:=mX hy;have q2:=r1 i (k+j) (by omega) (by omega);rw[c0,c0]at q2;exact q2
   .obtain⟨j,hj,rfl⟩:=mY hy;have q2:=up j (by omega);exact cc q1 q2
  .obtain⟨j,j1,j2,rfl⟩:=mZ hy;rcases d9.mp hx with hx|hx
   .obtain⟨i,hi,rfl⟩:=mP hx;exact cc (bk i hi) (up j j2)
   .rcases d9.mp (pm.mem_iff.mp hx)with hx|hx
    .obtain⟨i,hi,rfl⟩:=mX hx;exact cc (xO (k+i) (by omega)) (z6 j j1 j2)
    .obtain⟨i,hi,rfl⟩:=mY hx;exact r2 i j (by omega) j2
 by_cases c3:n1-k<=r
 .rw[vh c3];exact a7 (zd4 L aX aY (by omega) (by omega) sX sY bX bY S1.ki fin)
 .rw[vm c3];exact a7 (zdt L aX aY (by omega) (by omega) sX sY bX bY S1.ki fin)
end
section
variable {prog:bu}{w:World}{A:fq}{E:Value->ak->Prop}{s:ak}{κ:mf}{it:Array Keyed}{n:Nat}{key:Nat->Nat}
variable {p:Array Nat}{st:dm}
theorem Dif.perm {p q:Array Nat}(h:Dif key p)(k:q.Perm p):Dif key q:=by
 have nd:∀{p:Array Nat},Dif key p↔(p.toList.map key).Nodup:=λ{p}=>by
  have e:∀i (hi:i<p.size),Kp' key p i=key (p.toList[i]'(by rw[aw];exact hi)):=λi hi=>by unfold Kp';simp[g8,hi]
  constructor
  .intro h;refine d8.mpr λi j hi hj cM=>?_;rw[ae,aw]at hi hj;rw[l7,l7,<-e i hi,<-e j hj];exact h i j cM hj
  .intro h i j cM hj;have:=d8.mp h i j (by rw[ae,aw];omega) (by rw[ae,aw];omega) cM;rw[l7,l7]at this;rw[e i (by omega),e j hj];exact this
 exact nd.mpr ((ka.mp k).map key |>.nodup_iff.mpr (nd.mp h))
theorem Ris.DJ {p q:Array Nat}{lo m:Nat}(h:Ris key p lo m)(e:∀k,k<lo+m->Kp' key q k=Kp' key p k):Ris key q lo m:=λi j cM hj=>by rw[e _ (by omega),e _ (by omega)];exact h i j cM hj
theorem zim (L:LtOk prog w A E s κ it n key){pd:Array (Nat×Nat×Nat)}(S:Stn κ it n pd p st)(D:Dif key p){lo nrem mr:Nat}(h1:1<=nrem)(hz:lo+nrem<=p.size){α:Type}{k:Nat->SM α}{kn:SM α}{Q:α->dm->Prop}
  (h:∀m p' st',m<=nrem->min nrem mr<=m->Stn κ it n pd p' st'->Rn key p p' lo m->wpS (model prog w) A E s (k m) Q st'):
  wpS (model prog w) A E s (do
   let x <-countRun' lo nrem
   match x with
   |some found=>
    if found<mr then do
     rule "list.sort.binary-insertion";let b <-ut lo (min nrem mr) found
     if(!b)=Z7 then kn else k (min nrem mr)
    else k found
   |_=>kn) Q st:=by
 refine a7 (zae L S h1 hz D λm p' st' m1 m2 S' R'=>?_)
 dsimp only
 by_cases c:m<mr
 .rw[vh c];refine a7 (pj (ip ⟨rfl,?_⟩));refine a7 (znh L S' m1 (by omega) (by rw[R'.pm.size_eq];omega) R'.ri λp2 eZ S2 R2=>?_);simp only[tf,cf,if_false];exact h _ p2 eZ (by omega) (ah _) S2 ⟨R2.pm.trans R'.pm,R2.ri,λk hk=>(R2.un k hk).trans (R'.un k hk)⟩
 .rw[vm c];exact h m p' st' m2 (by omega) S' R'
def pE (size lo m:Nat):SM (ForInStep (Option Unit×Nat)):=do
 let s <-get
 match(du s).back? with
 |some (s1,n1,_)=>do
  let r <-forIn [0:size] ((Z8,()):Option Unit×Unit) λ_ _=>do
   let s <-get
   match(if(du s).size>1 then(du s)[(du s).size-2]? else Z8)with
   |some (_,_,xP)=>
    if xP<=power' size (2*s1+n1) (2*s1+n1+n1+m) size then pure (ForInStep.done (Z8,()))
    else do
     let b <-vb ((du s).size-2)
     if(!b)=Z7 then pure (ForInStep.done (Z9 (),()))else pure (ForInStep.yield (Z8,()))
   |_=>pure (ForInStep.done (Z8,()))
  match r.1 with
  |some z=>pure (ForInStep.done (Z9 z,lo))
  |none=>do
   modify λs=>n0 s ((du s).modify ((du s).size-1) λx=>(x.1,x.2.1,power' size (2*s1+n1) (2*s1+n1+n1+m) size))
   modify λs=>n0 s ((du s).push (lo,m,0))
   pure (ForInStep.yield (Z8,lo+m))
 |_=>do
  modify λs=>n0 s ((du s).push (lo,m,0))
  pure (ForInStep.yield (Z8,lo+m))
def z7:SM (ForInStep (Option Unit×Unit)):=do
 let s <-get
 if(du s).size<=1 then pure (ForInStep.done (Z8,()))
 else do
  let b <-vb (if((if(du s).size-2>0 then(du s)[(du s).size-2-1]?.map (·.2.1)else Z8).any (· <((du s)[(du s).size-2+1]?.elim 0 (·.2.1))))=Z7 then(du s).size-2-1 else(du s).size-2)
  if(!b)=Z7 then pure (ForInStep.done (Z9 (),()))else pure (ForInStep.yield (Z8,()))
theorem PY:sortRuns'=(do
 let st <-get
 let r <-forIn [0:(arrOf st).size] ((Z8,0):Option Unit×Nat) λ_ r=>
  if r.2 ≥ (arrOf st).size then pure (ForInStep.done (Z8,r.2))
  else do
   let x <-countRun' r.2 ((arrOf st).size-r.2)
   match x with
   |some found=>
    if found<uy (arrOf st).size (arrOf st).size 0 then do
     rule "list.sort.binary-insertion";let b <-ut r.2 (min ((arrOf st).size-r.2) (uy (arrOf st).size (arrOf st).size 0)) found
     if(!b)=Z7 then pure (ForInStep.done (Z9 (),r.2))else pE (arrOf st).size r.2 (min ((arrOf st).size-r.2) (uy (arrOf st).size (arrOf st).size 0))
    else pE (arrOf st).size r.2 found
   |_=>pure (ForInStep.done (Z9 (),r.2))
 match r.1 with
 |some z=>pure z
 |none=>do
  let r <-forIn [0:(arrOf st).size] ((Z8,()):Option Unit×Unit) λ_ _=>z7
  match r.1 with
  |some z=>pure z
  |none=>pure ()):=by
 rw[sortRuns'_eq];unfold pE z7
 dsimp only
 congr 1
 funext st
 congr 1
 .congr 1
  funext i r
  congr 1
  congr 1
  funext x
  cases x with
  |none=>rfl
  |some found=>
   dsimp only
   congr 1
   .congr 1
    funext _
    congr 1
    funext b
    congr 1
    congr 1
    funext s
    generalize (du s).back?=o;cases o with
    |none=>rfl
    |some y=>
     obtain⟨s1,n1,_⟩:=y
     dsimp only
     congr 1
     funext r
     obtain⟨o,r⟩:=r;cases o<;>rfl
   .congr 1
    funext s
    generalize (du s).back?=o;cases o with
    |none=>rfl
    |some y=>
     obtain⟨s1,n1,_⟩:=y
     dsimp only
     congr 1
     funext r
     obtain⟨o,r⟩:=r;cases o<;>rfl
 .funext r
  obtain⟨o,r⟩:=r;cases o with
  |some z=>rfl
  |none=>
   dsimp only
   congr 1
   funext r
   obtain⟨o,r⟩:=r;cases o<;>rfl
theorem PZ (S:Stn κ it n #[] p st){size lo m:Nat}{Q:ForInStep (Option Unit×Nat)->dm->Prop}(h:∀st',Stn κ it n #[(lo,m,0)] p st'->Q (.yield (Z8,lo+m)) st'):wpS (model prog w) A E s (pE size lo m) Q st:=by
 unfold pE;refine a7 (lj ?_);rw[S.pe];have e:(#[]:Array (Nat×Nat×Nat)).back?=none:=rfl;rw[e]
 dsimp only
 exact a7 (jv (az (h _ ⟨S.ki,S.ar,by show(du st).push _=_;rw[S.pe];rfl,S.fa,S.al⟩)))
theorem P0 {n1:Nat}(S:Stn κ it n #[(0,n1,0)] p st){size lo m:Nat}(hs:1<=size){Q:ForInStep (Option Unit×Nat)->dm->Prop}(h:∀pw st',Stn κ it n #[(0,n1,pw),(lo,m,0)] p st'->Q (.yield (Z8,lo+m)) st'):wpS (model prog w) A E s (pE size lo m) Q st:=by
 unfold pE;refine a7 (lj ?_);rw[S.pe];have e:(#[(0,n1,0)]:Array (Nat×Nat×Nat)).back?=Z9 (0,n1,0):=rfl;rw[e]
 dsimp only
 refine a7 (gc (fy (I:=λx c st'=>st'=st/\c=(Z8,())) (Q:=λc st'=>st'=st/\c=(Z8,())) ?_ (λ_ _ hh=>hh) ⟨rfl,rfl⟩) ?_)
 .rintro x c st' _ hx ⟨rfl,rfl⟩
  refine a7 (lj ?_);rw[S.pe,vm (by show ¬1>1;omega)];exact az ⟨rfl,rfl⟩
 .rintro c st' ⟨rfl,rfl⟩
  dsimp only
  refine a7 (jv (a7 (jv (az (h (power' size (2*0+n1) (2*0+n1+n1+m) size) _ ⟨S.ki,S.ar,?_,S.fa,S.al⟩)))));show((du st').modify ((du st').size-1) _).push _=_;rw[S.pe];apply pp.mp;simp
theorem zcn (L:LtOk prog w A E s κ it n key)(S:Stn κ it n #[] p st)(D:Dif key p)(h64:64<=p.size)(h127:p.size<=127){Q:Unit->dm->Prop}
  (h:∀p' st',arrOf st'=aQ it p'->j7 st'=Z8->p'.Perm p->SrL key p'.toList->Q () st'):wpS (model prog w) A E s sortRuns' Q st:=by
 rw[PY];refine a7 (lj ?_);have hz9z:(arrOf st).size=p.size:=by rw[S.ar,gO]
 simp only[hz9z]
 have P1:uy p.size p.size 0=p.size/2+p.size%2:=by
  obtain⟨f,hf⟩:∃f,p.size=f+1+1:=⟨p.size-2,by omega⟩;have e:∀N,N<128->64<=N->uy (f+1+1) N 0=N/2+N%2:=λN h1 h2=>by rw[minRun'_succ,vm (by omega),minRun'_succ,vh (by omega)];omega
  have:=e p.size (by omega) h64
  rwa [<-hf]at this
 rw[P1]
 refine a7 (gc (fy (I:=fun x c st'=>(x=0/\c=(Z8,0)/\st'=st)\/
   (x=1/\∃n1 p1,c=(Z8,n1)/\p.size/2+p.size%2<=n1/\n1<=p.size/\Stn κ it n #[(0,n1,0)] p1 st'/\p1.Perm p/\Ris key p1 0 n1)\/
   (x=2/\∃n1 pw p2,c=(Z8,p.size)/\1<=n1/\n1<p.size/\Stn κ it n #[(0,n1,pw),(n1,p.size-n1,0)] p2 st'/\p2.Perm p/\Ris key p2 0 n1/\Ris key p2 n1 (p.size-n1)))
  (Q:=λc st'=>c.1=Z8/\((∃p1,Stn κ it n #[(0,p.size,0)] p1 st'/\p1.Perm p/\Ris key p1 0 p.size)\/(∃n1 pw p2,1<=n1/\n1<p.size/\Stn κ it n #[(0,n1,pw),(n1,p.size-n1,0)] p2 st'/\p2.Perm p/\Ris key p2 0 n1/\Ris key p2 n1 (p.size-n1)))) ?_ ?_ (.inl ⟨rfl,rfl,rfl⟩)) ?_)
 .rintro x c st' _ hx (⟨rfl,rfl,rfl⟩|⟨rfl,n1,p1,rfl,a1,a2,S1,pm,r1⟩|⟨rfl,n1,pw,p2,rfl,a1,a2,S2,pm,r1,r2⟩)
  .dsimp only
   rw[vm (by omega)];refine zim (lo:=0) (nrem:=p.size-0) (mr:=p.size/2+p.size%2) (k:=pE p.size 0) (kn:=pure (ForInStep.done (Z9 (),0))) L S D (by omega) (by omega) λm p' eZ b1 b2 S' R'=>?_;refine PZ S' λgV S3=>?_;exact .inr (.inl ⟨rfl,0+m,p',rfl,by omega,by omega,by rw[c0];exact S3,R'.pm,by rw[c0];exact R'.ri⟩)
  .dsimp only
   by_cases c1:n1 ≥ p.size
   .rw[vh c1];have:n1=p.size:=by omega
    subst this;exact az ⟨rfl,.inl ⟨p1,S1,pm,r1⟩⟩
   .rw[vm c1];have zD:=pm.size_eq;refine zim (lo:=n1) (nrem:=p.size-n1) (mr:=p.size/2+p.size%2) (k:=pE p.size n1) (kn:=pure (ForInStep.done (Z9 (),n1))) L S1 (D.perm pm) (by omega) (by omega) λm p' eZ b1 b2 S' R'=>?_;have em:m=p.size-n1:=by omega
    subst em;refine P0 S' (by omega) λpw gV S3=>?_;refine .inr (.inr ⟨rfl,n1,pw,p',?_,by omega,by omega,S3,R'.pm.trans pm,r1.DJ λk hk=>R'.un k (by omega),R'.ri⟩);show(Z8,n1+(p.size-n1))=(Z8,p.size);rw[show n1+(p.size-n1)=p.size by omega]
  .dsimp only
   rw[vh (ah _)];exact az ⟨rfl,.inr ⟨n1,pw,p2,a1,a2,S2,pm,r1,r2⟩⟩
 .rintro c st' (⟨h0,_⟩|⟨h0,_⟩|⟨h0,_⟩)<;>omega
 .rintro⟨o,c⟩ st' ⟨hc,xQ⟩
  cases hc
  dsimp only
  have one:∀p1 dH pw,Stn κ it n #[(0,p.size,pw)] p1 dH->(du dH).size<=1:=λp1 dH pw S1=>by rw[S1.pe];exact ah 1
  refine a7 (gc (fy (I:=λx c dH=>c=(Z8,())/\((∃p1 pw,Stn κ it n #[(0,p.size,pw)] p1 dH/\p1.Perm p/\SrL key p1.toList)\/(x=0/\dH=st'/\∃n1 pw p2,1<=n1/\n1<p.size/\Stn κ it n #[(0,n1,pw),(n1,p.size-n1,0)] p2 st'/\p2.Perm p/\Ris key p2 0 n1/\Ris key p2 n1 (p.size-n1)))) (Q:=λc dH=>c=(Z8,())/\∃p1 pw,Stn κ it n #[(0,p.size,pw)] p1 dH/\p1.Perm p/\SrL key p1.toList) ?_ ?_ ⟨rfl,?_⟩) ?_)
  .rintro x c dH _ hx ⟨rfl,⟨p1,pw,S1,pm,so⟩|⟨rfl,rfl,n1,pw,p2,a1,a2,S2,pm,r1,r2⟩⟩
   .unfold z7;refine a7 (lj ?_);rw[vh (one p1 dH pw S1)];exact az ⟨rfl,p1,pw,S1,pm,so⟩
   .unfold z7;refine a7 (lj ?_);rw[S2.pe,vm (by show ¬2<=1;omega)];have Im:=pm.size_eq;have e0:(#[(0,n1,pw),(n1,p.size-n1,0)]:Array (Nat×Nat×Nat)).size=2:=rfl;rw[e0,vm (show ¬2-2>0 by omega)];refine a7 (zcc L S2 a1 (by omega) (by omega) r1 r2 λp' eZ S' P2 so=>?_);simp only[tf,cf,if_false];refine az ⟨rfl,.inl ⟨p',pw,?_,P2.trans pm,so⟩⟩
    rwa [show n1+(p.size-n1)=p.size by omega]at S'
  .rintro c dH ⟨rfl,hh|⟨h0,_⟩⟩
   .exact⟨rfl,hh⟩
   .omega
  .rcases xQ with⟨p1,S1,pm,r1⟩|hh
   .refine .inl ⟨p1,0,S1,pm,?_⟩;have:=sQ r1 (by rw[pm.size_eq];omega);rw[c0,iW,fu (by rw[aw,pm.size_eq];exact ah _)]at this;exact this
   .exact .inr ⟨rfl,rfl,hh⟩
  .rintro c dH ⟨rfl,p1,pw,S1,pm,so⟩
   exact az (h p1 dH S1.ar S1.fa pm so)
end
def Io (prog:bu)(w:World)(A:fq)(vs:List Value)(s:ak)(Out:Array Value->Prop):Prop:=wpAny (model prog w) A (pq vs.toArray) (λκ s1=>s1=s/\∀E,wpAny (model prog w) A ((sortRuns').run (SortSt.mk' κ (vs.toArray.zip vs.toArray) #[] 7 Z8)) (λr s2=>s2=s/\j7 r.2=Z8/\((arrOf r.2).map (·.2)).size<=1000/\Out ((arrOf r.2).map (·.2))) E s) (λ_ _=>False) s
theorem zah {prog:bu}{w:World}{A:fq}{E:Value->ak->Prop}{s:ak}{l:Addr}{vs:List Value}{Q:Value->ak->Prop}{Out:Array Value->Prop}(hl:s.heap.IsList l vs.toArray)(h2:2<=vs.length)(h3:vs.length<=1000)
  (run:∀h',(∀b o,s.heap.get? b=Z9 o->h'.get? b=Z9 o)->Io prog w A.in1.in1 vs {s with heap:=h'} Out)
  (h:∀D h' n out,Out out->s.heap.objs.size<=D->(∀b o,s.heap.get? b=Z9 o->h'.get? b=Z9 o)->h'.get? D=Z9 (cr "list" out n)->Q (.ref D) {s with heap:=h'}):wpAny (model prog w) A (call (.builtin "sorted") [.ref l]) Q E s:=by
 apply i6 qt p6 p7 (p8 _);unfold Builtin.«sorted»;apply aa (m:=checkCount "sorted" 1 1 _);apply av;apply aa;refine collect_list hl ?_ (by rw[fj];omega);apply aa;refine jg ?_ (by rw[fj];omega);have k1:∀b o,s.heap.get? b=some o->((s.heap.push (cr "list" #[] 0)).update s.heap.objs.size (Obj.mapSeq (· ++vs.toArray))).get? b=some o:=λb o e=>z1e (cz (bg e)) (af _ e);have z1:s.heap.objs.size<=((s.heap.push (cr "list" #[] 0)).update s.heap.objs.size (Obj.mapSeq (· ++vs.toArray))).objs.size:=by rw[pi,u9];omega
 generalize ((s.heap.push (cr "list" #[] 0)).update s.heap.objs.size (Obj.mapSeq (·++vs.toArray)))=h1 at k1 z1 ⊢;have qA:(h1.push (cr "list" vs.toArray 0)).get? h1.objs.size=Z9 (cr "list" vs.toArray 0):=b6 _ rfl;have k2:∀b o,s.heap.get? b=Z9 o->b≠h1.objs.size/\(h1.push (cr "list" vs.toArray 0)).get? b=Z9 o:=λb o e=>⟨cz (b7 (bg e) z1),af _ (k1 b o e)⟩;show wpAny _ _ _ _ _ {s with heap:=h1.push (cr "list" vs.toArray 0)};generalize hD:h1.objs.size=D at qA k2 z1 ⊢;generalize h1.push (cr "list" vs.toArray 0)=hx at qA k2 ⊢;apply aa;apply dw;refine kg qw ⟨_,qA,rfl⟩ qb ?body (qx _);rw[qc];refine aa (m9 (s:={s with heap:=hx}) qA rfl ?_);refine aa (j0 (s:={s with heap:=hx}) qA rfl ?_ (hsz:=by rw[fj];simp;omega));obtain⟨e1,DK⟩:∃e1,(hx.update D (Obj.mapSeq λ_=>(#[]:Array Value))).get? D=Z9 (cr "list" #[] e1):=⟨_,ja qA λ_=>#[]⟩;have k3:∀b o,s.heap.get? b=Z9 o->b≠D/\(hx.update D (Obj.mapSeq λ_=>(#[]:Array Value))).get? b=Z9 o:=λb o e=>⟨(k2 b o e).1,z1e (k2 b o e).1 (k2 b o e).2⟩;generalize (hx.update D (Obj.mapSeq λ_=>(#[]:Array Value)))=xR at DK k3 ⊢;refine aa (me (s:={s with heap:=xR}) DK rfl ?_);refine aa (qy ?_ (by rw[fj];simp;omega));apply aa;refine jg ?_;refine dw ?_;have z8:((xR.push (cr "tuple" vs.toArray 0)).push (cr "list" #[] 0)).get? D=Z9 (cr "list" #[] e1):=af _ (af _ DK);have k6:∀b o,s.heap.get? b=Z9 o->b≠D/\((xR.push (cr "tuple" vs.toArray 0)).push (cr "list" #[] 0)).get? b=Z9 o:=λb o e=>⟨(k3 b o e).1,af _ (af _ (k3 b o e).2)⟩;show wpAny (model prog w) _ _ _ _ {s with heap:=(xR.push (cr "tuple" vs.toArray 0)).push (cr "list" #[] 0)};generalize ((xR.push (cr "tuple" vs.toArray 0)).push (cr "list" #[] 0))=h6 at z8 k6 ⊢
 dsimp only
 have hz:¬vs.toArray.size<2:=by simp;omega
 rw[vm hz,vm hz];refine aa (gk (run h6 λb o e=>(k6 b o e).2) (λκ s1 hk=>?_) λ_ _ z=>z.elim);obtain⟨rfl,hr⟩:=hk;refine aa (gk (hr _) ?_ λ_ _ z=>z)
 rintro⟨⟨⟩,st⟩ s2 ⟨rfl,hf,hz9z,ho⟩
 dsimp only at hf hz9z ho ⊢
 refine aa (me (s:={s with heap:=h6}) z8 rfl ?_);refine aa (j0 (s:={s with heap:=h6}) z8 rfl ?_ (hsz2:=by rw[fj];omega));rw[hf];simp only[if_false,cf,bne_self_eq_false];refine av ⟨_,rfl,av ⟨_,rfl,h D _ _ _ ho z1 (λb o e=>z1e (k6 b o e).1 (k6 b o e).2) (ja z8 λ_=>(arrOf st).map (·.2))⟩⟩
theorem Ip:∀{ys:List D} {i j:Nat},difB ys=Z7->i<j->j<ys.length->bB (ys.getD i .none) (ys.getD j .none)=Z7\/bB (ys.getD j .none) (ys.getD i .none)=Z7
 | [],i,j,_,_,h=>by simp at h
 |x::xs,i,j,h,cM,hj=>by
  have h:((xs.all λy=>bB x y||bB y x)&&difB xs)=true:=h;obtain⟨h1,h2⟩:=bj.mp h;cases j with
  |zero=>omega
  |succ j=>
   rw[bo]at hj;have hm:xs.getD j .none∈xs:=by rw[am,au (by omega)];exact f0 _
   cases i with
   |zero=>show bB x (xs.getD j .none)=Z7\/bB (xs.getD j .none) x=Z7;exact gf.mp (bb.mp h1 _ hm)
   |succ i=>exact Ip (ys:=xs) h2 (by omega) (by omega)
theorem P4 {ds:List D}:(b9 ds.length).map (λi=>ds.getD i .none)=ds:=by
 apply List.ext_getElem
 .simp
 .intro i h1 h2;simp only[ae,ci]at h1;simp[h1]
theorem zg0 {prog:bu}{w:World}{A:fq}{vs:List Value}{s:ak}{ys:List D}{p:D->Prop}(O:OrdOn p)(hp:∀d∈ys,p d)(hl:vs.length=ys.length)(h64:64<=ys.length)(h127:ys.length<=127)(dif:difB ys=Z7)
  (ask:wpAny (model prog w) A (pq vs.toArray) (λκ s'=>s'=s/\∀i j (C:Bool->ak->Prop),i<ys.length->j<ys.length->C (bB (ys.getD i .none) (ys.getD j .none)) s->kas_ask prog w A κ vs i j C s) (λ_ _=>False) s):
  Io prog w A vs s (λout=>∃pm:List Nat,(∀i∈pm,i<ys.length)/\pm.length=ys.length/\out=(pm.map λi=>vs.getD i Value.none).toArray/\pm.map (λi=>ys.getD i .none)=z0r ys):=by
 refine gk ask (λκ s' hk=>?_) λ_ _ z=>z;obtain⟨rfl,hk⟩:=hk;refine⟨rfl,λE=>?_⟩
 let it:KA:=vs.toArray.zip vs.toArray
 have L:LtOk prog w A E s' κ it ys.length (rank ys):=λi j hi hj Q st hst h=>by rw[lt'_eq];refine a7 (lj ?_);rw[hst,kat_item rfl,kat_item rfl];have:=hk i j (λb s2=>s2=s'/\b=decide (rank ys i<rank ys j)) hi hj ⟨rfl,(sJ O hp hi hj).symm⟩;refine a7 (pj (wpAny_attempt (gk this (λb s2 hb=>?_) λ_ _ z=>z.elim)));obtain⟨rfl,rfl⟩:=hb;exact⟨rfl,az h⟩
 have zr:(b9 ys.length).toArray.size=ys.length:=by simp
 have gr:∀i,i<ys.length->Kp' (rank ys) (b9 ys.length).toArray i=rank ys i:=λi hi=>by
  unfold Kp'
  congr 1
  simp[g8,hi]
 have S:Stn κ it ys.length #[] (b9 ys.length).toArray (SortSt.mk' κ it #[] 7 Z8):=⟨rfl,by have:=kas_range it;rw[show it.size=ys.length by show(vs.toArray.zip vs.toArray).size=_;simp[hl]]at this;exact this.symm,rfl,rfl,by omega,λx hx=>by simpa using hx⟩
 have D:Dif (rank ys) (b9 ys.length).toArray:=λi j cM hj=>by
  rw[zr]at hj;rw[gr i (by omega),gr j hj];have r1:=sJ O hp (i:=i) (j:=j) (by omega) hj;have r2:=sJ O hp (i:=j) (j:=i) hj (by omega);rcases Ip dif cM hj with z|z
  .rw[z]at r1;have:=vp r1;omega
  .rw[z]at r2;have:=vp r2;omega
 refine gk (zcn (E:=E) (Q:=λ_ st'=>j7 st'=Z8/\((arrOf st').map (·.2)).size<=1000/\∃pm:List Nat,(∀i∈pm,i<ys.length)/\pm.length=ys.length/\(arrOf st').map (·.2)=(pm.map λi=>vs.getD i Value.none).toArray/\pm.map (λi=>ys.getD i .none)=z0r ys) L S D (by rw[zr];exact h64) (by rw[zr];exact h127) λp' st' DI hf pm so=>?_) (λr s2 hr=>hr) λ_ _ z=>z;have jI:p'.toList.Perm (b9 ys.length):=by have:=ka.mp pm;simpa using this
 have gQ:∀i∈p'.toList,i<ys.length:=λi hi=>by have:=jI.mem_iff.mp hi;simpa using this
 have e:(arrOf st').map (·.2)=(p'.toList.map λi=>vs.getD i Value.none).toArray:=kat_snds (ks:=vs) rfl DI;refine⟨hf,?_,p'.toList,gQ,?_,e,?_⟩
 .rw[e,bw,ae,jI.length_eq,ci];omega
 .rw[jI.length_eq,ci]
 .refine Dw O (λy hy=>?_) ?_ ?_ (Dv O ys hp)
  .obtain⟨i,hi,rfl⟩:=bx.mp hy;have hi:=gQ i hi;rw[am,au hi];exact hp _ (f0 _)
  .refine(jI.map _).trans ?_;rw[P4];exact(zG ys).symm
  .refine ik.mpr (jh (λ{a b} ha hb z9=>?_) so);have z9:rank ys a<=rank ys b:=z9;have:=sJ O hp (gQ b hb) (gQ a ha);rw[<-this];exact vr (by omega)
def qN (b:Bool)(x:D)(u:Value):Prop:=if b then ∃i t,x=.int i/\u=.int i t else ∃z t,x=.str z/\u=.str z t
theorem Iq {K:Z5}(hx:ofK b x=Z7)(r:Rep K H B v x)(a:RelV v u):qN b x u:=by
 cases b with
 |true=>obtain⟨i,rfl⟩:=kE hx;have e:=r;subst e;obtain⟨t,rfl⟩:=a;exact⟨i,t,rfl,rfl⟩
 |false=>obtain⟨z,rfl⟩:=jF hx;have e:=r.1;subst e;obtain⟨t,rfl⟩:=a;exact⟨z,t,rfl,rfl⟩
section
variable {prog:bu}{w:World}{A:fq}{E:Value->ak->Prop}{s:ak}{b:Bool}{x y:D}{u v:Value}{Q:Bool->ak->Prop}
theorem P5 (a:qN b x u)(c:qN b y v)(q:Q (bT x y) s):wpAny (model prog w) A (eqBool u v) Q E s:=by
 cases b with
 |true=>obtain⟨i,t,rfl,rfl⟩:=a;obtain⟨j,d,rfl,rfl⟩:=c;exact wpAny_eqBool_int q
 |false=>
  obtain⟨i,t,rfl,rfl⟩:=a;obtain⟨j,d,rfl,rfl⟩:=c;refine wpAny_eqBool_str ?_;have e:bT (.str i) (.str j)=decide (i=j):=by show(i==j)=decide (i=j);apply mv.mpr;rw[beq_iff_eq,decide_eq_true_eq]
  rw[<-e];exact q
theorem Ir (c:Bool)(a:qN b x u)(d:qN b y v)(q:Q (bB x y) s):wpAny (model prog w) A (oneLt' c u v) Q E s:=by
 cases b with
 |true=>
  obtain⟨i,t,rfl,rfl⟩:=a;obtain⟨j,e,rfl,rfl⟩:=d;cases c with
  |true=>exact oneLt_int q
  |false=>exact kat_one _ _ (PyProof.Rows.lt_int q)
 |false=>
  obtain⟨i,t,rfl,rfl⟩:=a;obtain⟨j,e,rfl,rfl⟩:=d;cases c with
  |true=>exact oneLt_str q
  |false=>exact kat_one _ _ (PyProof.Rows.lt_str q)
end
def kJ:List Bool->List D->List Value->Prop
 | [],xs,us=>xs=[]/\us=[]
 |b::bs,xs,us=>∃x r u t,xs=x::r/\us=u::t/\ofK b x=Z7/\qN b x u/\kJ bs r t
theorem DL {K:Z5}:∀{bs:List Bool} {d:List D} {f:List V} {g:List Value},cP bs d=Z7->Reps K H B f d->Vals f g->kJ bs d g
 | [],d,f,g,h,r,rv=>by have e:=fK h;subst e;subst r;cases rv;exact⟨rfl,rfl⟩
 |b::bs,d,f,g,h,r,rv=>by
  obtain⟨x,i,rfl,j,k⟩:=eU h;obtain⟨v,t,rfl,l,m⟩:=r;cases rv with
  |cons a c=>exact⟨x,i,_,_,rfl,rfl,j,Iq j l a,DL k m c⟩
theorem Iu:∀{bs:List Bool} {a d:List D} {f g:List Value} i,kJ bs a f->kJ bs d g->Q (aD a d) s->KatLex prog w A b Z6 Q (f.zip g) i s
 | [],a,d,f,g,i,h,j,q=>by obtain⟨rfl,rfl⟩:=h;obtain⟨rfl,rfl⟩:=j;exact q
 |c::bs,a,d,f,g,i,h,j,q=>by
  obtain⟨x,a,u,f,rfl,rfl,hx,k,h⟩:=h;obtain⟨y,d,v,g,rfl,rfl,m,l,j⟩:=j;refine kat_cons (P5 k l ?_);rw[sH]at q;cases e:bT x y with
  |true=>rw[e]at q;exact kat_yes (Iu (i+1) h j q)
  |false=>rw[e]at q;exact kat_no (Ir _ k l q)
theorem DM:∀{bs:List Bool} {c:List D} {a:List Value},kJ bs c a->a.length=bs.length
 | [],_,_,h=>by rw[h.2];rfl
 |b::bs,_,_,h=>by obtain⟨x,r,u,t,rfl,rfl,_,_,h⟩:=h;rw[bo,bo,DM h]
theorem z14.some (x:z14 P w H h a o):∃q,h.get? a=Z9 q:=by
 cases o with
 |lst xs=>obtain⟨_,_,_,_,e⟩:=x;exact⟨_,e⟩
 |tup xs=>obtain⟨_,_,_,_,e⟩:=x;exact⟨_,e⟩
 |dK kvs=>obtain⟨_,_,_,_,o,_,_,e,_⟩:=x;exact⟨_,e⟩
 |own y=>exact x
 |eP ob u=>exact⟨_,x.1⟩
 |lF ps=>exact⟨_,x⟩
 |ext φ=>obtain⟨p,⟨o,e⟩,st⟩:=x;exact⟨_,e⟩
theorem _root_.L2.Inv.laidF {D:Addr}(I:Inv X a y H s)(hm:s.heap.Ns X.env.locals m)(d:h.Ns X.env.locals m)
  (kp:∀b u,b≠X.env.locals->s.heap.get? b=Z9 u->h.get? b=Z9 u) (l:s.heap.get? D=Z8) (new:z14 X.prog X.w (upd H D o) h D o):Inv X a y (upd H D o) {s with heap:=h,toks:=t'}:=by
 have f:H D=none:=by
  cases e:H D with
  |none=>rfl
  |some u=>obtain⟨q,p⟩:=z14.some (I.hok D u e);rw[l]at p;cases p
 refine I.step (ch:=[]) (λ_ z=>nomatch z) (λb q i _ _ e _=>kp b q i e) (λb q i _ _ e _=>⟨q.slots,kp b q i e⟩) (λb q _ e n=>?_) (λb q _ e=>?_) (λb r q=>by rw[aO (eC q f)];exact q) (λb u r q=>by rw[aO (eC q f)];exact q) (λb ps q=>⟨#[],by rw[aO (eC q f),q];simp⟩) (λB j=>?_) (λb u e=>?_) I.bare
 .rw[aO (λz=>by subst z;rw[l]at e;cases e)];exact n
 .by_cases g:b=X.env.locals
  .subst g;obtain⟨A,_,_,k,_⟩:=d;exact⟨A,k⟩
  .exact⟨q,kp b q g e⟩
 .rw[j.eq_nsMap,<-hm.eq_nsMap];exact d
 .by_cases g:b=D
  .subst g;rw[cK]at e;cases e;exact new
  .rw[aO g]at e;have t:∀c v,H c=Z9 v->c≠X.env.locals:=λc v x z=>by subst z;rw[I.free]at x;cases x
   refine(I.hok b u e).stay (λc v hc q=>kp c v ?_ q) (λc q=>by rw[aO (eC q f)];exact q) λc r q=>by rw[aO (eC q f)];exact q
   rcases hc with rfl|hc
   .exact t _ _ e
   .exact t _ _ hc
theorem Ab (r:Vals a b):∀(is:List Nat),(∀i∈is,i<a.length)->Vals (is.map λi=>a.getD i .bU) (is.map λi=>b.getD i Value.none)
 | [],_=>.nil
 |i::is,h=>by
  have c:=h i (by simp);obtain⟨u,hu,d⟩:=r.get (i:=i) (x:=a[i]) (by simp[c]);have e:a.getD i .bU=a[i]:=by simp[c]
  have f:b.getD i Value.none=u:=by rw[am,hu];rfl
  rw[bp,bp,e,f];exact .cons d (Ab r is λj g=>h j (by simp[g]))
theorem Ac {K:Z5}(r:Reps K H B b a):∀(is:List Nat),(∀i∈is,i<a.length)->Reps K H B (is.map λi=>b.getD i .bU) (is.map λi=>a.getD i .none)
 | [],_=>rfl
 |i::is,h=>by
  have c:=h i (by simp);obtain⟨v,e,rv⟩:=r.get (i:=i) (d:=a[i]) (by simp[c]);have f:a.getD i .none=a[i]:=by simp[c]
  have g:b.getD i .bU=v:=by rw[am,e];rfl
  rw[bp,bp,f,g];exact Reps.cons rv (Ac r is λj k=>h j (by simp[k]))
section
variable {X:Cx}
theorem z1x (O:OrdOn p)(I:Inv X E σ H s)
  (hl:s.heap.IsList a k.toArray) (rv:Vals R k) (Y:Reps X.K H B R f) (h2:2<=f.length) (h64:f.length<64) (S:∀d∈f,p d)
  (ask:∀t,(∀b o,b≠X.env.locals->s.heap.get? b=Z9 o->t.get? b=Z9 o)->wpAny (model X.prog X.w) X.A.in1.in1 (pq k.toArray) (λκ T=>T={s with heap:=t}/\∀i j C,i<f.length->j<f.length->C (bB (f.getD i .none) (f.getD j .none)) {s with heap:=t}->kas_ask X.prog X.w X.A.in1.in1 κ k i j C {s with heap:=t}) (λ_ _=>False) {s with heap:=t})
  (q:∀w U,Same H U->Rep X.K U (λa=>nw H a\/(imms f=Z6/\B a)) w (.list (z0r f))->Q w U):
  wpAny (model X.prog X.w) X.A (call (.builtin "sorted") [.ref a]) (EP X E σ Q) X.xe s:=by
 have l1:=Y.length;have l2:=rv.length;obtain⟨m,F,_⟩:=id I.loc;refine kat_sorted ⟨F,I.bk,cc I.ok.iL I.ok.above⟩ (Gu) hl (by omega) (by omega) λD e1 t F' V G=>?_
 have r:∀{h:Heap} {o:Obj},Fr X.base X.env.locals h m->News X.base X.env.locals h ((D,o)::wb X.base s.heap X.env.locals)->∀b o,b≠X.env.locals->s.heap.get? b=Z9 o->h.get? b=Z9 o:=λl n b o hb e=>by
  cases W:X.base.get? b with
  |some u=>have:=I.bk b u W;rw[e]at this;cases this;exact l.keep b _ W
  |none=>exact(n (b,o) (ba _ (Bi hb W e))).1
 have J:=V (D,cr "list" #[] e1) a8
 have hD:s.heap.get? D=none:=by
  cases e:s.heap.get? D with
  |none=>rfl
  |some o=>exact absurd (G (D,o) (Bi J.2.1 J.2.2 e)) (cj _)
 have v:H D=none:=by
  cases e:H D with
  |none=>rfl
  |some u=>obtain⟨q,hq⟩:=z14.some (I.hok D u e);rw[hD]at hq;cases hq
 refine aI (ask t (r F' V)) λκ T zz=>?_;obtain⟨rfl,L⟩:=zz;have el:k.length=f.length:=by omega
 rw[el];refine Dr (lt:=ltk (rank f)) (λi j C T x hj e hC=>?_) (kas_sort f.length) _ (HS (by omega)) rfl λT e=>?_
 .subst e;refine L i j C x hj ?_;rw[<-sJ O S x hj];exact hC _ rfl
 .subst e;refine⟨_,_,F',V,.head (λp S=>cz (G p S)),λh c l n=>?_⟩;have M:=(n _ a8).1;have N:=Ia O S (by omega);obtain⟨_,g⟩:=Dm f.length (by omega);generalize runT (ltk (rank f)) (kas_sort f.length)=y at N g M ⊢;have P:∀i∈y.toList,i<f.length:=λi x=>by have:=(g.toList.mem_iff).mp x;simpa using this
  have P6:(y.toList.map λi=>R.getD i .bU).length=f.length:=by have:=g.toList.length_eq;simpa using this
  have new:z14 X.prog X.w (upd H D (.lst (y.toList.map λi=>R.getD i .bU))) h D (.lst (y.toList.map λi=>R.getD i .bU)):=⟨by rw[fj];omega,_,c,Ab rv y.toList (λi x=>by rw[l1];exact P i x),M⟩;refine⟨.ref D,_,I.laidF (t':=s.toks) F l.ns (r l n) hD new,rfl,q _ _ (Same.upd v) ?_⟩;rw[<-N];exact oT v (Ac (Reps.kC Y) y.toList P) (λ_ z=>z) (.inl v)
end
section
variable {X:Cx}
theorem DN {K:Z5}(f:Reps K H B g b)(rv:Vals g a)(c:i<b.length):∃v,Rep K H B v (b.getD i .none)/\RelV v (a.getD i Value.none)/\a[i]?=Z9 (a.getD i Value.none):=by
 obtain⟨v,h,j⟩:=f.get (i:=i) (d:=b[i]) (by simp[c]);obtain⟨u,e,k⟩:=rv.get h;have l:b.getD i .none=b[i]:=by simp[c]
 have m:a.getD i Value.none=u:=by rw[am,e];rfl
 rw[l,m];exact⟨v,j,k,e⟩
theorem P7 {a:List Value}(h:u∈a):∃i,i<a.length/\a.getD i Value.none=u:=by obtain⟨i,b,e⟩:=gq h;exact⟨i,b,by rw[<-e];simp[b]⟩
theorem z57 {s:ak}(b:Bool)(m:∀d∈c,ofK b d=Z7)(h:Reps X.K H B n c)(rv:Vals n a)(l:2<=c.length)(g:Heap):
  wpAny (model X.prog X.w) A (pq a.toArray) (λo p=>p={s with heap:=g}/\∀i j C,i<c.length->j<c.length->C (bB (c.getD i .none) (c.getD j .none)) {s with heap:=g}->kas_ask X.prog X.w A o a i j C {s with heap:=g}) (λ_ _=>False) {s with heap:=g}:=by
 have hl:a.length=c.length:=by rw[<-rv.length,h.length]
 have sc:∀i,i<c.length->qN b (c.getD i .none) (a.getD i Value.none):=λi f=>by obtain⟨v,q,l,_⟩:=DN h rv f;exact Iq (m _ (by rw[am,au f];exact f0 f)) q l
 have ty:∀u∈a,Looks (model X.prog X.w) g (uq u) (.type (if b then "int"else "str")):=λu hu=>by
  obtain⟨i,f,rfl⟩:=P7 hu;have:=sc i (by omega);cases b with
  |true=>obtain⟨k,t,_,e⟩:=this;rw[e];exact Looks.of_pure rfl
  |false=>obtain⟨k,t,_,e⟩:=this;rw[e];exact Looks.of_pure rfl
 refine kas_kind (by omega) ty (by cases b<;>decide) (by cases b<;>decide) ⟨rfl,λi j C f r x=>?_⟩;exact Ir Z7 (sc i f) (sc j r) x
theorem zqc (I:Inv X m P H s)(kp:∀b o,s.heap.get? b=Z9 o->o.cls=.type "tuple"->b≠X.env.locals->w.get? b=Z9 o)(b:Bool)(bs:List Bool):
  ∀{j:List D} {i:List V} {e:List Value},(∀d∈j,z2l (b::bs) d=Z7)->Reps X.K H B i j->Vals i e->∃fs,KatTups w e fs/\fs.length=e.length/\∀f∈fs,∃x,qN b x f
 | [],i,e,_,r,rv=>by subst r;cases rv;exact⟨[],trivial,rfl,λ_ z=>nomatch z⟩
 |y::j,i,e,p,r,rv=>by
  obtain⟨v,t,rfl,A,C⟩:=r;cases rv with
  |cons a c=>
   obtain⟨fs,E,F,G⟩:=zqc I kp b bs (λd hd=>p d (by simp[hd])) C c;obtain⟨Q,rfl,hs⟩:=kF (p y (by simp));obtain⟨J,ws,rfl,L,k⟩:=A;cases a;obtain⟨M,N,⟨o,ho,q,n,hd⟩,_⟩:=I.tuple L;have l:J≠X.env.locals:=by intro z;subst z;obtain⟨_,⟨R,es,ep,g,h,_⟩,_⟩:=id I.loc;rw[ho]at g;cases g;rw[hd]at h;cases h
   obtain⟨x,r,u,S,rfl,rfl,_,O,_⟩:=DL hs k N;exact⟨u::fs,KatTups.cons (kp _ _ ho q l) q hd (by simp) E,by simp[F],λf hf=>(ay.mp hf).elim (λz=>⟨x,by rw[z];exact O⟩) (G f)⟩
theorem zdu (I:Inv X E σ H s)(b:Bool)(bs:List Bool)(F:∀d∈c,z2l (b::bs) d=Z7)(r:Reps X.K H B N c)(rv:Vals N a)(h2:2<=c.length)(kp:∀b o,s.heap.get? b=Z9 o->o.cls=.type "tuple"->b≠X.env.locals->g.get? b=Z9 o):
  wpAny (model X.prog X.w) A (pq a.toArray) (λO P=>P={s with heap:=g}/\∀i j C,i<c.length->j<c.length->C (bB (c.getD i .none) (c.getD j .none)) {s with heap:=g}->kas_ask X.prog X.w A O a i j C {s with heap:=g}) (λ_ _=>False) {s with heap:=g}:=by
 have hl:a.length=c.length:=by rw[<-rv.length,r.length]
 obtain⟨fs,Q,k2,R⟩:=zqc I kp b bs F r rv
 have ty:∀u∈fs,Looks (model X.prog X.w) g (uq u) (.type (if b then "int"else "str")):=λu hu=>by
  obtain⟨x,this⟩:=R u hu;cases b with
  |true=>obtain⟨k,t,_,e⟩:=this;rw[e];exact Looks.of_pure rfl
  |false=>obtain⟨k,t,_,e⟩:=this;rw[e];exact Looks.of_pure rfl
 have part:∀i,i<c.length->∃h q o f n,a.getD i Value.none=.ref h/\c.getD i .none=.tuple q/\g.get? h=Z9 o/\o.data=.seq (lh f) n/\kJ (b::bs) q f:=λi l=>by
  obtain⟨v,G,S,_⟩:=DN r rv l;obtain⟨q,ex,hs⟩:=kF (F (c.getD i .none) (by rw[am,au l];exact f0 l));rw[ex]at G;obtain⟨h,ws,rfl,T,y⟩:=G;obtain⟨f,U,⟨o,ho,V,n,hd⟩,_⟩:=I.tuple T;have D:h≠X.env.locals:=by intro z;subst z;obtain⟨_,⟨o',es,ep,m,p,_⟩,_⟩:=id I.loc;rw[ho]at m;cases m;rw[hd]at p;cases p
  exact⟨h,q,o,f,n,S,ex,kp _ _ ho V D,hd,DL hs y U⟩
 refine kat_kind Q (by omega) ty (by cases b<;>decide) ⟨rfl,λi j C l W J=>?_⟩;obtain⟨ai,xi,oi,Y,ni,e1,e2,e3,e4,L⟩:=part i l;obtain⟨aj,xj,oj,jj,nj,f1,f2,f3,f4,M⟩:=part j W;show wpAny _ _ (keyLt' _ (a.getD i Value.none) (a.getD j Value.none)) C _ _;rw[e1,f1];refine kat_lt e3 e4 f3 f4 ?_;have ef:decide ((lh Y).size<(lh jj).size)=false:=by rw[bw,bw,DM L,DM M];simp
 rw[ef];rw[e2,f2]at J;exact Iu 0 L M J
end
def sR (A:fq)(s:ak)(a b:Value)(r:Bool):Prop:=∀(prog:bu) (w:World) (E:Value->ak->Prop) (Q:Value->ak->Prop),Q (.bool r) s->wpAny (model prog w) A (richCompare .Lt a b) Q E s
def mF (A:fq)(s:ak)(fin:Bool):List (Value×Value)->Bool->Prop
 | [],r=>r=fin
 |(p,q)::l,r=>∃e,SeqAt.EqAt A s p q e/\if e=Z7 then mF A s fin l r else sR A s p q r
theorem zke
  (ha:s.heap.get? a=Z9 oa) (da:oa.data=.seq xs na) (hb:s.heap.get? b=Z9 ob) (cb:ob.cls=.type "tuple") (db:ob.data=.seq ys nb) (h:mF A s (decide (xs.size<ys.size)) (xs.toList.zip ys.toList) r) (q:P (.done (.ret (.bool r))) s):
  wpAny (model prog w) A (Builtin.«tuple.__lt__» ⟨[.ref a,.ref b],[]⟩) P E s:=by
 refine aa (m:=vc (.ref b) (.type "tuple")) (wpAny_isInstance ⟨ob,hb,cb⟩ isSubtype_tuple_tuple ?_);refine aa (tt ha da (aa (tt hb db (aa ?_))));refine wpAny_forIn_list _ (λl z s'=>z.1=Z8/\s'=s/\mF A s (decide (xs.size<ys.size)) l r) _ ?_ ?_ _ _ ⟨rfl,rfl,h⟩
 .rintro⟨u,v⟩ l z s' ⟨hz,rfl,e,he,ht⟩
  refine aa (he prog w _ _ ?_);cases e with
  |true=>exact av ⟨rfl,rfl,ht⟩
  |false=>refine aa (ip (aa (ht prog w _ _ (aa (av ?_)))));exact av (av q)
 .rintro⟨z,z'⟩ s' ⟨hz,rfl,ht⟩
  subst hz;have hr:=ht;rw[hr]at q;exact av q
theorem zqt (hu:A.units<cLine)(ha:s.heap.get? a=Z9 oa)(ca:oa.cls=.type "tuple")(da:oa.data=.seq xs na)(hb:s.heap.get? b=Z9 ob)(cb:ob.cls=.type "tuple")(db:ob.data=.seq ys nb)
  (h:mF A.in1 s (decide (xs.size<ys.size)) (xs.toList.zip ys.toList) r):sR A s (.ref a) (.ref b) r:=λprog w E Q q=>
 wpAny_richCompare_same_room ⟨oa,ha,ca⟩ ⟨ob,hb,cb⟩ F.slot_tuple_lt (kg F.slot_tuple_lt ⟨oa,ha,ca⟩ F.entry_tuple_lt (zke ha da hb cb db h ⟨_,rfl,by simp,q⟩) (F.args_tuple_lt_2 _ _)) hu
theorem in1_units (A:fq):A.in1.units=A.units+1:=rfl
mutual
theorem Iv:∀(x y:ag) {A:fq} {s:ak} {a b:Value} {as bs:List Addr},Reads s.heap a x as->Reads s.heap b y bs->x.canLay0=Z7->y.canLay0=Z7->cmpb x y=Z7->A.units+x.depth+1<cLine->sR A s a b (bB x y)
 |.int i,y,A,s,a,b,as,bs,ra,rb,ha,hb,hc,hu=>by
  cases y<;>try (cases hc;done)
  cases ra;cases rb;exact λprog w E Q q=>PyProof.Rows.lt_int q
 |.str i,y,A,s,a,b,as,bs,ra,rb,ha,hb,hc,hu=>by
  cases y<;>try (cases hc;done)
  cases ra;cases rb;exact λprog w E Q q=>PyProof.Rows.lt_str q
 |.tuple xs,y,A,s,a,b,as,bs,ra,rb,ha,hb,hc,hu=>by
  cases y<;>try (cases hc;done)
  rename_i ys;cases ra with
  |tuple h1 h2 h3 h4=>
   cases rb with
   |tuple k1 k2 k3 k4=>refine zqt (by omega) h1 h2 h3 k1 k2 k3 ?_;have e1:=SeqAt.ReadsAll.length _ _ _ h4;have e2:=SeqAt.ReadsAll.length _ _ _ k4;rw[<-aw,<-aw,e1,e2];exact Iw xs ys h4 k4 ha hb hc (by rw[in1_units];simp only[PyData.depth]at hu;omega)
 |.none,y,A,s,a,b,as,bs,ra,rb,ha,hb,hc,hu=>by cases hc
 |.bool _,y,A,s,a,b,as,bs,ra,rb,ha,hb,hc,hu=>by cases hc
 |.list _,y,A,s,a,b,as,bs,ra,rb,ha,hb,hc,hu=>by cases hc
 |.dict _,y,A,s,a,b,as,bs,ra,rb,ha,hb,hc,hu=>by cases hc
theorem Iw:∀(xs ys:List ag) {A:fq} {s:ak} {us vs:List Value} {as bs:List Addr},nz s.heap us xs as->nz s.heap vs ys bs->ZY xs=Z7->ZY ys=Z7->z39 xs ys=Z7->A.units+ZX xs+1<cLine->mF A s (decide (xs.length<ys.length)) (us.zip vs) (aD xs ys)
 | [],ys,A,s,us,vs,as,bs,ra,rb,ha,hb,hc,hu=>by
  cases ra;cases rb with
  |nil=>exact rfl
  |cons _ _=>exact rfl
 |x::xs,ys,A,s,us,vs,as,bs,ra,rb,ha,hb,hc,hu=>by
  cases ra with
  |cons r1 r2=>
   cases rb with
   |nil=>exact rfl
   | @cons v dF y qI _ _ k1 k2=>
    rw[ZY,a6]at ha hb;rw[z39,a6]at hc;simp only[ZX]at hu;refine⟨bT x y,SeqAt.eqAt_reads _ _ _ _ _ _ _ _ r1 k1 ha.1 hb.1 (by omega),?_⟩;rw[sH];cases e:bT x y with
    |true=>
     rw[vh rfl,vh rfl];have el:decide ((x::xs).length<(y::qI).length)=decide (xs.length<qI.length):=by simp
     rw[el];exact Iw xs qI r2 k2 ha.2 hb.2 hc.2 (by omega)
    |false=>rw[vm cv,vm cv];exact Iv x y r1 k1 ha.1 hb.1 hc.1 (by omega)
end
structure gC (p:D->Prop):Prop extends OrdOn p where
 eq:∀x y,p x->p y->(bT x y=Z7↔x=y)
structure bI (q:List D->Prop):Prop where
 fX:∀x,q x->aD x x=Z6
 tr:∀x y z,q x->q y->q z->aD x y=Z7->aD y z=Z7->aD x z=Z7
 hX:∀x y z,q x->q y->q z->aD x z=Z7->aD x y=Z7\/aD y z=Z7
 gM:∀x y,q x->q y->aD x y=Z6->aD y x=Z6->x=y
 eq:∀x y,q x->q y->(ZV x y=Z7↔x=y)
section
variable {p:D->Prop}(O:gC p){x y z:D}{xs ys zs:List D}
include O
theorem fE (hx:p x)(a:p y)(h:x=y):aD (x::xs) (y::ys)=aD xs ys:=by rw[sH,vh ((O.eq x y hx a).mpr h)]
theorem dS (hx:p x)(a:p y)(h:x≠y):aD (x::xs) (y::ys)=bB x y:=by rw[sH,vm λz=>h ((O.eq x y hx a).mp z)]
theorem xS (hx:p x)(hy:p y)(hz:p z)(ih:aD xs ys=Z7->aD ys zs=Z7->aD xs zs=Z7)(e1:aD (x::xs) (y::ys)=Z7)(e2:aD (y::ys) (z::zs)=Z7):aD (x::xs) (z::zs)=true:=by
 by_cases xy:x=y
 .rw[fE O hx hy xy]at e1;by_cases yz:y=z
  .rw[fE O hy hz yz]at e2;rw[fE O hx hz (xy.trans yz)];exact ih e1 e2
  .rw[dS O hy hz yz]at e2;rw[dS O hx hz (xy▸yz),xy];exact e2
 .rw[dS O hx hy xy]at e1;by_cases yz:y=z
  .rw[dS O hx hz (yz▸xy),<-yz];exact e1
  .rw[dS O hy hz yz]at e2;have e3:=O.tr x y z hx hy hz e1 e2;rw[dS O hx hz (λq=>by subst q;rw[O.fX x hx]at e3;cases e3)];exact e3
theorem Iy (hx:p x)(a:p y)(c:p z)(g:aD xs zs=Z7->aD xs ys=Z7\/aD ys zs=Z7)(e:aD (x::xs) (z::zs)=Z7):aD (x::xs) (y::ys)=Z7\/aD (y::ys) (z::zs)=true:=by
 by_cases d:x=z
 .rw[fE O hx c d]at e;by_cases b:x=y
  .rw[fE O hx a b,fE O a c (b.symm.trans d)];exact g e
  .rw[dS O hx a b,dS O a c (λq=>b (d.trans q.symm)),<-d];cases h:bB x y with
   |true=>exact .inl rfl
   |false=>
    cases i:bB y x with
    |true=>exact .inr rfl
    |false=>exact(b (O.gM x y hx a h i)).elim
 .rw[dS O hx c d]at e;by_cases b:x=y
  .rw[dS O a c (λq=>d (b.trans q)),<-b];exact .inr e
  .rw[dS O hx a b];by_cases f:y=z
   .rw[f];exact .inl e
   .rw[dS O a c f];exact O.hX x y z hx a c e
theorem Iz (hx:p x)(b:p y)(e:aD xs ys=Z6->aD ys xs=Z6->xs=ys)(c:aD (x::xs) (y::ys)=Z6)(d:aD (y::ys) (x::xs)=Z6):x::xs=y::ys:=by
 by_cases a:x=y
 .rw[fE O hx b a]at c;rw[fE O b hx a.symm]at d;rw[a,e c d]
 .rw[dS O hx b a]at c;rw[dS O b hx (λq=>a q.symm)]at d;exact(a (O.gM x y hx b c d)).elim
theorem IA (hx:p x)(a:p y)(b:ZV xs ys=Z7↔xs=ys):ZV (x::xs) (y::ys)=Z7↔x::xs=y::ys:=by rw[ZV,a6,b,List.cons.injEq];exact and_congr (O.eq x y hx a) Iff.rfl
end
theorem bI.nil:bI (λl=>l=[]) where
 fX:=λx h=>by rw[h];exact zF
 tr:=λx y z a b c d f=>by rw[a,b]at d;cases d
 hX:=λx y z a b c e=>by rw[a,c]at e;cases e
 gM:=λx y a b _ _=>a.trans b.symm
 eq:=λx y a b=>by rw[a,b];exact⟨λ_=>rfl,λ_=>rfl⟩
theorem bI.cons {p:D->Prop}{q:List D->Prop}(O:gC p)(L:bI q):bI (λl=>∃x r,l=x::r/\p x/\q r) where
 fX:=λl h=>by obtain⟨x,r,rfl,hx,hr⟩:=h;rw[fE O hx hx rfl];exact L.fX r hr
 tr:=λl1 l2 l3 h1 h2 h3=>by obtain⟨x,r,rfl,hx,hr⟩:=h1;obtain⟨y,t,rfl,hy,ht⟩:=h2;obtain⟨z,u,rfl,hz,hu⟩:=h3;exact xS O hx hy hz (L.tr _ _ _ hr ht hu)
 hX:=λl1 l2 l3 h1 h2 h3=>by obtain⟨x,r,rfl,hx,hr⟩:=h1;obtain⟨y,t,rfl,hy,ht⟩:=h2;obtain⟨z,u,rfl,hz,hu⟩:=h3;exact Iy O hx hy hz (L.hX _ _ _ hr ht hu)
 gM:=λl1 l2 h1 h2=>by obtain⟨x,r,rfl,hx,hr⟩:=h1;obtain⟨y,t,rfl,hy,ht⟩:=h2;exact Iz O hx hy (L.gM _ _ hr ht)
 eq:=λl1 l2 h1 h2=>by obtain⟨x,r,rfl,hx,hr⟩:=h1;obtain⟨y,t,rfl,hy,ht⟩:=h2;exact IA O hx hy (L.eq _ _ hr ht)
theorem P8 (h:aD [] a=Z7):∃y r,a=y::r:=by
 cases a with
 |nil=>rw[zF]at h;cases h
 |cons y r=>exact⟨y,r,rfl⟩
theorem xT (y:D)(r:List D):aD [] (y::r)=true:=by simp[aD]
theorem Ae (y:D)(r:List D):aD (y::r) []=false:=by simp[aD]
section
variable {p:D->Prop}(O:gC p)
include O
theorem IB:∀a:List D,(∀x∈a,p x)->aD a a=Z6
 | [],_=>zF
 |x::a,h=>by rw[fE O (h x (by simp)) (h x (by simp)) rfl];exact IB a λz b=>h z (by simp[b])
theorem xU:∀c d a:List D,(∀x∈c,p x)->(∀x∈d,p x)->(∀x∈a,p x)->aD c d=Z7->aD d a=Z7->aD c a=Z7
 | [],d,a,f,g,h,e,b=>by
  obtain⟨y,r,rfl⟩:=P8 e;cases a with
  |nil=>rw[Ae]at b;cases b
  |cons z t=>exact xT z t
 |x::c,[],a,f,g,h,e,b=>by rw[Ae]at e;cases e
 |x::c,y::d,[],f,g,h,e,b=>by rw[Ae]at b;cases b
 |x::c,y::d,z::a,f,g,h,e,b=>xS O (f x (by simp)) (g y (by simp)) (h z (by simp)) (xU c d a (λw i=>f w (by simp[i])) (λw i=>g w (by simp[i])) λw i=>h w (by simp[i])) e b
theorem IC:∀c b a:List D,(∀x∈c,p x)->(∀x∈b,p x)->(∀x∈a,p x)->aD c a=Z7->aD c b=Z7\/aD b a=Z7
 | [],[],a,d,f,g,e=>.inr e
 | [],y::b,a,d,f,g,e=>.inl (xT y b)
 |x::c,b,[],d,f,g,e=>by rw[Ae]at e;cases e
 |x::c,[],z::a,d,f,g,e=>.inr (xT z a)
 |x::c,y::b,z::a,d,f,g,e=>Iy O (d x (by simp)) (f y (by simp)) (g z (by simp)) (IC c b a (λw h=>d w (by simp[h])) (λw h=>f w (by simp[h])) λw h=>g w (by simp[h])) e
theorem ID:∀a b:List D,(∀x∈a,p x)->(∀x∈b,p x)->aD a b=Z6->aD b a=Z6->a=b
 | [],[],e,f,c,d=>rfl
 | [],y::b,e,f,c,d=>by rw[xT]at c;cases c
 |x::a,[],e,f,c,d=>by rw[xT]at d;cases d
 |x::a,y::b,e,f,c,d=>Iz O (e x (by simp)) (f y (by simp)) (ID a b (λw g=>e w (by simp[g])) λw g=>f w (by simp[g])) c d
theorem xV:∀a b:List D,(∀x∈a,p x)->(∀x∈b,p x)->(ZV a b=Z7↔a=b)
 | [],[],c,d=>⟨λ_=>rfl,λ_=>rfl⟩
 | [],y::b,c,d=>⟨λh=>by simp[ZV]at h,λh=>nomatch h⟩
 |x::a,[],c,d=>⟨λh=>by simp[ZV]at h,λh=>nomatch h⟩
 |x::a,y::b,c,d=>IA O (c x (by simp)) (d y (by simp)) (xV a b (λw e=>c w (by simp[e])) λw e=>d w (by simp[e]))
theorem bI.all:bI (λl=>∀x∈l,p x):=⟨IB O,xU O,IC O,ID O,xV O⟩
end
theorem bI.tup {q:List D->Prop}(L:bI q):gC (λd=>∃l,d=.tuple l/\q l) where
 fX:=λd h=>by obtain⟨l,rfl,h⟩:=h;exact L.fX l h
 tr:=λx y z a b c=>by obtain⟨l,rfl,a⟩:=a;obtain⟨m,rfl,b⟩:=b;obtain⟨n,rfl,c⟩:=c;exact L.tr l m n a b c
 hX:=λx y z a b c=>by obtain⟨l,rfl,a⟩:=a;obtain⟨m,rfl,b⟩:=b;obtain⟨n,rfl,c⟩:=c;exact L.hX l m n a b c
 gM:=λx y a b e f=>by obtain⟨l,rfl,a⟩:=a;obtain⟨m,rfl,b⟩:=b;rw[L.gM l m a b e f]
 eq:=λx y a b=>by obtain⟨l,rfl,a⟩:=a;obtain⟨m,rfl,b⟩:=b;show ZV l m=Z7↔_;rw[L.eq l m a b];exact⟨λh=>by rw[h],λh=>by cases h;rfl⟩
theorem gC.of (O:gC q)(h:∀d,p d->q d):gC p where
 fX:=λx hx=>O.fX x (h x hx)
 tr:=λx y z hx a b=>O.tr x y z (h x hx) (h y a) (h z b)
 hX:=λx y z hx a b=>O.hX x y z (h x hx) (h y a) (h z b)
 gM:=λx y hx a=>O.gM x y (h x hx) (h y a)
 eq:=λx y hx a=>O.eq x y (h x hx) (h y a)
theorem IE (b:Bool):gC (λx=>ofK b x=Z7):=⟨oX b,λ_ _=>Ds⟩
theorem bI.sh:∀bs,bI (λl=>cP bs l=Z7)
 | []=>⟨λx h=>bI.nil.fX x (fK h),λx y z h1 h2 h3=>bI.nil.tr x y z (fK h1) (fK h2) (fK h3),λx y z h1 h2 h3=>bI.nil.hX x y z (fK h1) (fK h2) (fK h3),λx y h1 h2=>bI.nil.gM x y (fK h1) (fK h2),λx y h1 h2=>bI.nil.eq x y (fK h1) (fK h2)⟩
 |b::bs=>by have L:=bI.cons (IE b) (bI.sh bs);exact⟨λx h=>L.fX x (eU h),λx y z h1 h2 h3=>L.tr x y z (eU h1) (eU h2) (eU h3),λx y z h1 h2 h3=>L.hX x y z (eU h1) (eU h2) (eU h3),λx y h1 h2=>L.gM x y (eU h1) (eU h2),λx y h1 h2=>L.eq x y (eU h1) (eU h2)⟩
section
variable {X:Cx}{pins:List (Addr×Obj)}{σ:L2.St}{H:Hp}{s:ak}{B:Ad->Prop}{h':Heap}
mutual
theorem IF (I:Inv X pins σ H s)(kp:∀b o,s.heap.get? b=Z9 o->o.cls=.type "tuple"->b≠X.env.locals->h'.get? b=Z9 o):∀{v:V} {u:Value} (d:ag) (n:Nat),cmpb d d=Z7->shal n d=Z7->Rep X.K H B v d->RelV v u->(∃as,Reads h' u d as)/\d.canLay0=Z7/\d.depth<=n
 |v,u,.int b,n,_,_,r,q=>by have e:v=.int b:=r;subst e;obtain⟨t,rfl⟩:=q;exact⟨⟨[],.int b t⟩,by simp only[ZZ],e8 _⟩
 |v,u,.str b,n,_,_,r,q=>by obtain⟨e,ok⟩:v=.str b/\_:=r;subst e;obtain⟨t,rfl⟩:=q;exact⟨⟨[],.str b t⟩,by simp only[ZZ];exact ok,e8 _⟩
 |v,u,.tuple ds,0,_,h,r,q=>by cases h
 |v,u,.tuple ds,n+1,hc,h,r,q=>by
  obtain⟨a,vs,e,h1,r1⟩:=r;subst e;cases q;obtain⟨its,rv,⟨o,ho,hcl,k,hd⟩,_⟩:=I.tuple h1;have fW:a≠X.env.locals:=λz=>by subst z;obtain⟨_,⟨o',es,ep,ho',uM,_⟩,_⟩:=id I.loc;rw[ho]at ho';cases ho';rw[hd]at uM;cases uM
  obtain⟨⟨as,ra⟩,c,dp⟩:=IG I kp ds n hc h r1 rv;refine⟨⟨as,.tuple (kp _ _ ho hcl fW) hcl hd (by simpa using ra)⟩,by simp only[ZZ];exact c,?_⟩;simp only[PyData.depth];omega
 |v,u,.none,n,hc,h,r,q=>by cases hc
 |v,u,.bool _,n,hc,h,r,q=>by cases hc
 |v,u,.list _,n,hc,h,r,q=>by cases hc
 |v,u,.dict _,n,hc,h,r,q=>by cases hc
theorem IG (I:Inv X pins σ H s)(kp:∀b o,s.heap.get? b=Z9 o->o.cls=.type "tuple"->b≠X.env.locals->h'.get? b=Z9 o):∀{vs:List V} {us:List Value} (ds:List ag) (n:Nat),z39 ds ds=Z7->eE n ds=Z7->Reps X.K H B vs ds->Vals vs us->(∃as,nz h' us ds as)/\ZY ds=Z7/\ZX ds<=n
 |vs,us,[],n,_,_,r,q=>by have e:vs=[]:=r;subst e;cases q;exact⟨⟨[],.nil⟩,by simp only[ZY],e8 _⟩
 |vs,us,d::ds,n,hc,h,r,q=>by
  obtain⟨v,t,e,h1,r1⟩:=r;subst e;rw[eE,a6]at h;rw[z39,a6]at hc;cases q with
  |cons q1 q2=>obtain⟨⟨as,ra⟩,c,dp⟩:=IF I kp d n hc.1 h.1 h1 q1;obtain⟨⟨bs,rb⟩,c2,CM⟩:=IG I kp ds n hc.2 h.2 r1 q2;refine⟨⟨as++bs,.cons ra rb⟩,by simp only[ZY,c,c2,sr],?_⟩;simp only[ZX];exact Nat.max_le.mpr ⟨dp,CM⟩
end
end
def fstK (t:Bool):D->Bool
 |.tuple (.str _::_)=>!t
 |.tuple (.tuple _::_)=>t
 |_=>Z6
theorem lexN:∀(xs ys:List D) {us vs:List Value} {as bs:List Addr} (i:Nat),nz s.heap us xs as->nz s.heap vs ys bs->ZY xs=Z7->ZY ys=Z7->z39 xs ys=Z7->A.units+ZX xs+1<cLine->
  (b=Z7->i=0->∀x r,xs=x::r->uQ x=Z7)->Q (aD xs ys) s->KatLex prog w A b (decide (xs.length<ys.length)) Q (us.zip vs) i s
 | [],ys,us,vs,as,bs,i,ra,rb,ha,hb,hc,hu,hf,q=>by
  cases ra;cases rb with
  |nil=>exact q
  |cons _ _=>exact q
 |x::xs,ys,us,vs,as,bs,i,ra,rb,ha,hb,hc,hu,hf,q=>by
  cases ra with
  |cons r1 r2=>
   cases rb with
   |nil=>exact q
   | @cons v dF y qI _ _ k1 k2=>
    rw[ZY,a6]at ha hb;rw[z39,a6]at hc;simp only[ZX]at hu;refine kat_cons (SeqAt.eqAt_reads _ _ _ _ _ _ _ _ r1 k1 ha.1 hb.1 (by omega) prog w _ _ ?_);rw[sH]at q;have el:decide ((x::xs).length<(y::qI).length)=decide (xs.length<qI.length):=by simp
    rw[el];cases e:PyData.eqv x y with
    |true=>rw[show bT x y=Z7 from e,vh rfl]at q;exact kat_yes (lexN xs qI (i+1) r2 k2 ha.2 hb.2 hc.2 (by omega) (λ_ z=>nomatch z) q)
    |false=>
     rw[show bT x y=Z6 from e,vm cv]at q;refine kat_no ?_;cases DO:(b&&i==0)with
     |false=>exact kat_one _ _ (Iv x y r1 k1 ha.1 hb.1 hc.1 (by omega) prog w _ _ q)
     |true=>
      rw[a6,beq_iff_eq]at DO;obtain⟨z,rfl⟩:=jF (hf DO.1 DO.2 x xs rfl);have qO:=hc.1;cases y<;>try (cases qO;done)
      cases r1;cases k1;exact oneLt_str q
def sS (h':Heap)(t:Bool)(d:D)(u:Value):Prop:=∃ad x xs o vs n as,u=.ref ad/\d=.tuple (x::xs)/\fstK t d=Z7/\h'.get? ad=Z9 o/\o.cls=.type "tuple"/\o.data=.seq vs n/\nz h' vs.toList (x::xs) as/\ZY (x::xs)=Z7/\ZX (x::xs)<=30
def DP (h':Heap)(t:Bool):List D->List Value->Prop
 | [],us=>us=[]
 |d::ds,us=>∃u r,us=u::r/\sS h' t d u/\DP h' t ds r
def IH (t:Bool):Value:=.type (if t then "tuple"else "str")
section
variable {X:Cx}{pins:List (Addr×Obj)}{σ:L2.St}{H:Hp}{s:ak}{B:Ad->Prop}{h':Heap}{t:Bool}
theorem II (I:Inv X pins σ H s)(kp:∀b o,s.heap.get? b=Z9 o->o.cls=.type "tuple"->b≠X.env.locals->h'.get? b=Z9 o)(hf:fstK t d=Z7)(hs:shal 30 d=Z7)(hc:cmpb d d=Z7)(r:Rep X.K H B v d)(ru:RelV v u):sS h' t d u:=by
 cases d<;>try (cases hf;done)
 rename_i ds;cases ds with
 |nil=>cases hf
 |cons x xs=>
  obtain⟨⟨as,ra⟩,c,dp⟩:=IF I kp (.tuple (x::xs)) 30 hc hs r ru;cases ra with
  |tuple h1 h2 h3 h4=>exact⟨_,x,xs,_,_,_,as,rfl,rfl,hf,h1,h2,h3,h4,by simpa only[ZZ]using c,by simp only[PyData.depth]at dp;omega⟩
theorem IJ:∀{ys:List D} {its:List Value},DP h' t ys its->∃fs,KatTups h' its fs/\fs.length=its.length/\∀f∈fs,Looks (model P w) h' (uq f) (IH t)
 | [],its,h=>by have e:=h;subst e;exact⟨[],trivial,rfl,λ_ z=>nomatch z⟩
 |d::ys,its,h=>by
  obtain⟨u,iM,rfl,a,r⟩:=h;obtain⟨fs,k1,k2,k3⟩:=IJ (P:=P) (w:=w) r;obtain⟨ad,x,xs,o,vs,n,as,rfl,rfl,hf,h1,h2,h3,h4,_⟩:=a;generalize hl:vs.toList=l at h4;cases h4 with
  | @cons f l' _ _ _ _ r1 r2=>
   refine⟨f::fs,KatTups.cons h1 h2 h3 (by rw[<-gy,hl];rfl) k1,by simp[k2],λg hg=>(ay.mp hg).elim (λz=>?_) (k3 g)⟩;rw[z];cases x<;>try (cases hf;done)
   .cases t<;>try (cases hf;done)
    cases r1;exact Looks.of_pure rfl
   .cases t<;>try (cases hf;done)
    cases r1 with
    |tuple q1 q2 q3 q4=>have e:IH Z7=_:=q2.symm;rw[e];exact(Looks.ld q1).andThen .now
theorem zb8 (I:Inv X pins σ H s)(hy:∀d∈ys,fstK t d=Z7/\shal 30 d=Z7)(hc:∀d∈ys,∀e∈ys,cmpb d e=Z7)(rs:Reps X.K H B vs ys)(rv:Vals vs its)(h2:2<=ys.length)(kp:∀b o,s.heap.get? b=Z9 o->o.cls=.type "tuple"->b≠X.env.locals->h'.get? b=Z9 o)(hu:A.units+40<cLine):
  wpAny (model X.prog X.w) A (pq its.toArray) (λκ s'=>s'={s with heap:=h'}/\∀i j (C:Bool->ak->Prop),i<ys.length->j<ys.length->C (bB (ys.getD i .none) (ys.getD j .none)) {s with heap:=h'}->kas_ask X.prog X.w A κ its i j C {s with heap:=h'}) (λ_ _=>False) {s with heap:=h'}:=by
 have hl:its.length=ys.length:=by rw[<-rv.length,rs.length]
 have all:∀{ys:List D} {vs:List V} {its:List Value},(∀d∈ys,fstK t d=Z7/\shal 30 d=Z7/\cmpb d d=Z7)->Reps X.K H B vs ys->Vals vs its->DP h' t ys its:=λ{ys}=>by
  induction ys with
  |nil=>intro vs its _ r rv;have e:=r;subst e;cases rv;exact rfl
  |cons y ys ih=>
   intro vs its h r rv;obtain⟨v,dF,rfl,r1,r2⟩:=r;cases rv with
   |cons a c=>obtain⟨z1,z2,z3⟩:=h y (by simp);exact⟨_,_,rfl,II I kp z1 z2 z3 r1 a,ih (λd hd=>h d (by simp[hd])) r2 c⟩
 have fa:=all (λd hd=>⟨(hy d hd).1,(hy d hd).2,hc d hd d hd⟩) rs rv;obtain⟨fs,k1,k2,k3⟩:=IJ fa;refine kat_kind k1 (by omega) k3 (by cases t<;>decide) ⟨rfl,λi j C hi hj hC=>?_⟩;have hm:∀i,i<ys.length->ys.getD i .none∈ys:=λi hi=>by rw[am,au hi];exact f0 hi
 have part:∀i,i<ys.length->sS h' t (ys.getD i .none) (its.getD i Value.none):=λi hi=>by obtain⟨v,r1,r2,_⟩:=DN rs rv hi;exact II I kp (hy _ (hm i hi)).1 (hy _ (hm i hi)).2 (hc _ (hm i hi) _ (hm i hi)) r1 r2
 have gR:=hc _ (hm i hi) _ (hm j hj);obtain⟨ai,xi,ri,oi,vi,ni,Vm,e1,e2,hf,e3,_,e4,e5,e6,e7⟩:=part i hi;obtain⟨aj,xj,rj,oj,vj,nj,Vn,f1,f2,_,f3,_,f4,f5,f6,f7⟩:=part j hj;show wpAny _ _ (keyLt' _ (its.getD i Value.none) (its.getD j Value.none)) C _ _;rw[e1,f1];rw[e2]at hf;rw[e2,f2]at gR hC;refine kat_lt e3 e4 f3 f4 ?_;rw[<-aw,<-aw,SeqAt.ReadsAll.length _ _ _ e5,SeqAt.ReadsAll.length _ _ _ f5];refine lexN (xi::ri) (xj::rj) 0 e5 f5 e6 f6 gR (by omega) (λhb _ x r hx=>?_) hC;cases hx;cases t with
 |true=>exact absurd hb (by decide)
 |false=>cases xi<;>first|(cases hf;done)|rfl
end
theorem Af (h:z2l [Z6,Z7] d=Z7):∃x i,d=.tuple [.str x,.int i]:=by obtain⟨l,rfl,h⟩:=kF h;obtain⟨a,r,rfl,ha,h⟩:=eU h;obtain⟨b,r,rfl,hb,h⟩:=eU h;cases fK h;obtain⟨x,rfl⟩:=jF ha;obtain⟨i,rfl⟩:=kE hb;exact⟨x,i,rfl⟩
theorem qP (h:lP d=Z7):∃l,d=.tuple l/\∀x∈l,z2l [Z6,Z7] x=true:=by cases d<;>first|(cases h;done)|exact⟨_,rfl,bb.mp h⟩
theorem Ag (h:uR d=Z7):∃x l,d=.tuple (x::l)/\∀z∈x::l,z2l [Z6,Z7] z=true:=by
 cases d<;>try (cases h;done)
 rename_i l;cases l with
 |nil=>cases h
 |cons x l=>exact⟨x,l,rfl,bb.mp h⟩
theorem Ah (h:oI d=Z7):∃x a b,d=.tuple [.str x,a,b]/\lP a=Z7/\lP b=true:=by
 unfold oI at h;split at h
 .exact⟨_,_,_,rfl,(bj.mp h).1,(bj.mp h).2⟩
 .cases h
theorem Ai:∀l m:List D,(∀x∈l,z2l [Z6,Z7] x=Z7)->(∀x∈m,z2l [Z6,Z7] x=Z7)->z39 l m=Z7
 | [],m,_,_=>by rw[z39]
 |x::l,[],_,_=>by rw[z39]
 |x::l,y::m,h1,h2=>by obtain⟨a,i,rfl⟩:=Af (h1 x (by simp));obtain⟨b,j,rfl⟩:=Af (h2 y (by simp));rw[z39,Ai l m (λz hz=>h1 z (by simp[hz])) λz hz=>h2 z (by simp[hz])];rfl
theorem DQ (n:Nat)(h:∀x∈l,z2l [Z6,Z7] x=Z7):eE (n+1) l=true:=uO.mpr λz hz=>by obtain⟨a,i,rfl⟩:=Af (h z hz);cases n<;>rfl
theorem DR:gC (λd=>∃l,d=.tuple l/\∀x∈l,z2l [Z6,Z7] x=Z7):=bI.tup (bI.all ((bI.tup (bI.sh [Z6,Z7])).of λ_ h=>kF h))
theorem DS {ys:List D}(h:(ys.all uR||ys.all oI)=Z7):∃(p:D->Prop) (t:Bool),OrdOn p/\(∀d∈ys,p d)/\(∀d∈ys,fstK t d=Z7/\shal 30 d=Z7)/\∀d∈ys,∀e∈ys,cmpb d e=true:=by
 rcases(fz _ _).mp h with h|h
 .rw[bb]at h;refine⟨_,Z7,DR.1,λd hd=>?_,λd hd=>?_,λd hd e he=>?_⟩
  .obtain⟨x,l,rfl,hl⟩:=Ag (h d hd);exact⟨_,rfl,hl⟩
  .obtain⟨x,l,rfl,hl⟩:=Ag (h d hd);obtain⟨a,i,rfl⟩:=Af (hl x (by simp));exact⟨rfl,DQ 28 hl⟩
  .obtain⟨x,l,rfl,hl⟩:=Ag (h d hd);obtain⟨y,m,rfl,hm⟩:=Ag (h e he);exact Ai _ _ hl hm
 .rw[bb]at h;refine⟨_,Z6,(bI.tup (bI.cons (IE Z6) (bI.cons DR (bI.cons DR bI.nil)))).1,λd hd=>?_,λd hd=>?_,λd hd e he=>?_⟩
  .obtain⟨x,a,b,rfl,ha,hb⟩:=Ah (h d hd);exact⟨_,rfl,_,_,rfl,rfl,_,_,rfl,qP ha,_,_,rfl,qP hb,rfl⟩
  .obtain⟨x,a,b,rfl,ha,hb⟩:=Ah (h d hd);obtain⟨l,rfl,hl⟩:=qP ha;obtain⟨m,rfl,hm⟩:=qP hb;refine⟨rfl,?_⟩;show(Z7&&(eE 28 l&&(eE 28 m&&Z7)))=Z7;rw[DQ 27 hl,DQ 27 hm];rfl
  .obtain⟨x,a,b,rfl,ha,hb⟩:=Ah (h d hd);obtain⟨y,a',b',rfl,DT,uW⟩:=Ah (h e he);obtain⟨l,rfl,hl⟩:=qP ha;obtain⟨m,rfl,hm⟩:=qP hb;obtain⟨l',rfl,Bj⟩:=qP DT;obtain⟨m',rfl,P9⟩:=qP uW;show(Z7&&(z39 l l'&&(z39 m m'&&Z7)))=Z7;rw[Ai _ _ hl Bj,Ai _ _ hm P9];rfl
section
variable {X:Cx}
theorem ze8 {pins:List (Addr×Obj)}{s:ak}{σ:L2.St}{H:Hp}{xs:List V}{us:List Value}{Q:VK}{B:Ad->Prop}{x:V}{dx:D}{ys:List D}{d:D}(hu:X.A.units+64<cLine)(I:Inv X pins σ H s)(r:Vals xs us)(hx:xs=[x])(rx:Rep X.K H B x dx)(e:z4y dx=.ok (Z7,ys))(e2:aggD "sorted" Z7 ys=.ok d)
  (q:∀w H',Same H H'->Rep X.K H' (λa=>nw H a\/(imms ys=Z6/\B a)) w d->Q w H'):wpAny (model X.prog X.w) X.A (call (.builtin "sorted") us) (EP X pins σ Q) X.xe s:=by
 subst hx;obtain⟨a,vs,rfl,vC,rs⟩:=sG rx e;simp only[aggD,show("sorted":String)≠"list" by decide,show("sorted":String)≠"tuple" by decide,if_true,if_false]at e2;split at e2
 case isFalse=>
  split at e2
  case isFalse=>cases e2
  rename_i hb;cases e2;rw[Bool.true_and]at hb;unfold z7p at hb;simp only[a6,decide_eq_true_eq]at hb;obtain⟨⟨fW,hdf⟩,h64,h127⟩:=hb;obtain⟨u,rfl,ru⟩:=vals1 r;cases ru;obtain⟨its,rv,pl,hz⟩:=I.list vC;have DU:its.length=ys.length:=by rw[<-rv.length,rs.length]
  have l1:vs.length=ys.length:=rs.length;obtain⟨p,t,O,hp,hy,gR⟩:=DS (ys:=ys) (by rw[fW];rfl);refine zah pl.isList (by omega) (by omega) (λh' kp=>zg0 O hp DU h64 h127 hdf (zb8 I hy gR rs rv (by omega) (λb o e _ _=>kp b o e) (by show X.A.units+1+1+40<cLine;omega))) λD h' n out ho hD kp hg=>?_;obtain⟨pm,gQ,hlen,rfl,DV⟩:=ho;have hH:H D=none:=I.hok.fresh hD;have I2:=I.laid (a:=D) (o:=.lst (pm.map λi=>vs.getD i .bU)) (t':=s.toks) kp hD ⟨by rw[ae,hlen,fj];omega,_,n,Ab rv pm (λi hi=>by rw[l1];exact gQ i hi),hg⟩;refine⟨.ref D,_,I2,rfl,q _ _ (Same.upd hH) ?_⟩;rw[<-DV];exact oT hH (Ac (Reps.kC rs) pm gQ) (λ_ z=>z) (.inl hH)
 rename_i hc;cases e2;simp only[decide_eq_true_eq,a6,ke,true_and]at hc;obtain⟨hs,h64⟩:=hc;obtain⟨u,rfl,ru⟩:=vals1 r;cases ru;obtain⟨its,rv,pl,hz⟩:=I.list vC;have DU:its.length=ys.length:=by rw[<-rv.length,rs.length]
 by_cases h2:ys.length<2
 .refine z6q pl.isList (by omega) λD h' n hD kp ho=>?_;have hH:H D=none:=I.hok.fresh hD;have I2:=I.laid (a:=D) (o:=.lst vs) (t':=s.toks) kp hD ⟨hz,its,n,rv,ho⟩;refine⟨.ref D,_,I2,rfl,q _ _ (Same.upd hH) ?_⟩
  have es:z0r ys=ys:=by
   match ys,h2 with
   | [],_=>rfl
   | [y],_=>rfl
   |_::_::_,h2=>simp at h2;omega
  rw[es];exact oT hH (Reps.kC rs) (λ_ z=>z) (.inl hH)
 .have hZ:2<=ys.length:=by omega
  replace hs:=(fz _ _).mp hs;rcases hs with hs|hs
  case inr=>replace hs:=((fz _ _).mp hs).resolve_left λz=>h2 (vp z);obtain⟨p,t,O,hp,hy,gR⟩:=DS hs;exact z1x O I pl.isList rv rs hZ h64 hp (λh' kp=>zb8 I hy gR rs rv hZ (λb o e _ hL=>kp b o hL e) (by show X.A.units+1+1+40<cLine;omega)) q
  unfold lO at hs;simp only[fz,bb]at hs;rcases hs with(hs|hs)|hs
  .exact z1x oV I pl.isList rv rs hZ h64 hs (λh' kp=>z57 Z7 hs rs rv hZ h') q
  .exact z1x oW I pl.isList rv rs hZ h64 hs (λh' kp=>z57 Z6 hs rs rv hZ h') q
  .split at hs
   case h_2=>cases hs
   rename_i y0 _;simp only[a6,bb,j4]at hs;obtain⟨fW,hs⟩:=hs;cases y0 with
   |nil=>cases fW
   |cons y1 yr=>exact z1x (sI _) I pl.isList rv rs hZ h64 hs (λh' kp=>zdu I _ _ hs rs rv hZ λb o e _ hL=>kp b o hL e) q
end
section
variable {X:Cx}
theorem P' (m:X.calm=Z7):CallR X (.builtin "any") (λj H Q=>∃(p:Addr) (bs:List Bool),j=[.ref p]/\SqL X.K H p (bs.map V.bl)/\Q (.bl (bs.any id)) H):=by
 rintro l s D H j E Q I r ⟨p,bs,rfl,n,q⟩
 obtain⟨u,rfl,rfl⟩:=vals1 r;obtain⟨c,rv,pl,F⟩:=I.list n;refine call_any_walk (ug pl.isList ?_);have ne:p≠s.heap.objs.size:=by obtain⟨o,ho,_⟩:=pl.isList;exact cz (bg ho)
 have a:=by have:=rv.length;rw[ae]at this;exact this
 refine⟨s.heap.objs.size,_,_,_,_,_,λi=>bs.getD i Z6,rfl,Walks.list (A:=X.A.in1) (I.ok.hd m) s.heap.objs.size p ne c.toArray,⟨⟨_,b6 _ rfl,rfl,rfl⟩,pl.isList.at λo e=>af _ e⟩,?_,?_⟩
 .intro i v t w G x y;have d:c[i]?=Z9 v:=by simpa using x
  have hb:i<bs.length:=a▸(aq.mp d).1;obtain⟨J,hu,B⟩:=rv.get (by rw[a9,au hb];rfl);rw[d]at hu;cases hu;cases B;refine gg ?_;have e:bs.getD i Z6=bs[i]:=by simp[am,hb]
  have f:w (bs.getD i Z6) t:=y;rw[e]at f;exact f
 .intro L M k;refine⟨.bl (bs.any id),H,I.kept λb o e=>?_,?_,q⟩
  .refine k b o (λz=>?_) (af _ e);have C:b=s.heap.objs.size:=by simpa using z
   exact absurd (bg e) (C▸cj _)
  .have e:(b9 c.toArray.size).any (fun i=>bs.getD i Z6)=bs.any id:=by
    rw[bw,<-a];apply mv.mpr;simp only[List.any_eq_true];constructor
    .rintro⟨i,d,h⟩
     have g:i<bs.length:=by simpa using d
     exact⟨bs[i],f0 g,by simpa[am,g]using h⟩
    .rintro⟨b,hb,h⟩
     have⟨i,d,ei⟩:=gq hb;subst ei;exact⟨i,by simpa using d,by simpa[am,d]using h⟩
   rw[e];rfl
theorem Qa (f:X.calm=Z7):CallR X (.builtin "any") (rAgg X.K "any"):=by
 refine CallR.imp (P' f) λj H Q h=>?_;obtain⟨B,x,k,l,g,d,rfl,r,e,b,q⟩:=h;obtain⟨a,m,rfl,h,i⟩:=sG r e;simp only[aggD,show("any":String)≠"list" by decide,show("any":String)≠"tuple" by decide,show("any":String)≠"sorted" by decide,show("any":String)≠"sum" by decide,show("any":String)≠"all" by decide,if_true,if_false]at b;cases l with
 |false=>cases b
 |true=>
  cases c:allB g with
  |none=>rw[c]at b;cases b
  |some bs=>rw[c]at b;cases b;have ev:=HK c i;subst ev;exact⟨a,bs,rfl,h,q _ H (Same.refl H) rfl⟩
end
theorem Qb (r:KV kvs c){i:Nat}(h:kvs[i]?=Z9 (k,v)):∃u,c[i]?=Z9 (k,u)/\RelV v u:=by
 induction r generalizing i with
 |nil=>simp at h
 |cons a b d=>
  cases i with
  |zero=>cases h;rename_i e _ _;obtain⟨g,f⟩:=e;obtain⟨rfl,a2⟩:=a;exact⟨f,rfl,a2⟩
  |succ i=>exact d h
theorem Qc (h:(nB P w).is k u=Z7):RelV (kV k) u:=by
 rcases mW h with⟨i,t,rfl,rfl⟩|⟨x,t,rfl,rfl⟩
 .exact⟨t,rfl⟩
 .exact⟨t,rfl⟩
theorem bC.at {K:Z5}:∀{kvs:List (Key×V)} {es:cR} {i:Nat} {k:Key} {v:V},bC K H B kvs es->kvs[i]?=Z9 (k,v)->∃d,es[i]?=Z9 (kD k,d)/\keyOk k/\Rep K H B v d
 |kvs,[],i,k,v,r,e=>by have:kvs=[]:=r;subst this;simp at e
 |kvs,(kd,d)::es,i,k,v,r,e=>by
  obtain⟨c,f,t,rfl,rfl,ok,a,b⟩:=r;cases i with
  |zero=>cases e;exact⟨d,rfl,ok,a⟩
  |succ i=>rw[List.getElem?_cons_succ]at e ⊢;exact bC.at b e
theorem Qd {K:Z5}(ok:keyOk k):Rep K H B (kV k) (kD k):=by
 cases k with
 |inl i=>exact rfl
 |inr x=>exact⟨rfl,ok⟩
section
variable {X:Cx}
theorem Qe {K:Z5}{i:Nat}(so:StOk K F H k l)(e:l[i]?=Z9 (Z9 (g,.dict es))):∃d a B,k[i]?=Z9 (Z9 (.ref d))/\H d=Z9 (.dK a)/\F.V d/\bC K H B a es:=by
 obtain⟨v,f,j⟩:=so.sl i g _ e;cases g with
 |fr=>
  obtain⟨p,rfl,ho,h⟩:=j;rcases h with⟨_,_,z,_⟩|⟨a,m,z,c,r⟩
  .cases z
  .cases z;exact⟨p,a,_,f,c,(so.own p i ho).2.1,r⟩
 |od=>obtain⟨p,a,rfl,c,b,r⟩:=j;exact⟨p,a,_,f,c,b.2,r⟩
 |al=>obtain⟨p,a,rfl,c,b,r⟩:=j;exact⟨p,a,_,f,c,b,r⟩
 |nu=>obtain⟨p,a,rfl,c,b,r⟩:=j;exact⟨p,a,_,f,c,b.2.2,r⟩
end
section
variable {X:Cx}{pins:List (Addr×Obj)}{σ:L2.St}{H:Hp}{s:ak}
theorem _root_.L2.Inv.xW (I:Inv X d k H s)(f:FpOk X d H a)(new:z14 X.prog X.w (upd H a u) s.heap a u):Inv X d k (upd H a u) s:=by
 obtain⟨g,l,t,o,p,r⟩:=f
 exact I.step (ch:=[a]) (fun b i=>by
   have e:b=a:=by simpa using i
   subst e;exact⟨o,l,p,r⟩) (λb q _ _ _ e _=>e) (λb q _ _ _ e _=>⟨q.slots,e⟩) (λb q hc _ n=>by rw[aO (λz=>hc (by simp[z]))];exact n) (λb q _ e=>⟨q,e⟩)
  (λb j q=>by rw[aO (eC q g)];exact q) (λb v j q=>by rw[aO (eC q g)];exact q) (λb ps q=>⟨#[],by rw[aO (eC q g),q];simp⟩) (λm h=>h) (λb v e=>by
   by_cases i:b=a
   .subst i;rw[cK]at e;cases e;exact new
   .rw[aO i]at e;exact(I.hok b v e).stay (λc w _ q=>q) (λc q=>by rw[aO (eC q g)];exact q) λc j q=>by rw[aO (eC q g)];exact q) I.bare
theorem z6x:∀(l:List (Addr×List V)) {H:Hp},Inv X d k H s->(l.map (·.1)).Nodup->(∀q∈l,FpOk X d H q.1)->(∀q∈l,q.2.length<=bf/\∃f,Vals q.2 f/\TupN s.heap q.1 f.toArray)->
  ∃e,Inv X d k e s/\Same H e/\(∀q∈l,e q.1=Z9 (.tup q.2))/\∀a,a∉l.map (·.1)->e a=H a
 | [],H,I,_,_,_=>⟨H,I,Same.refl H,(λq c=>absurd c (by simp)),λ_ _=>rfl⟩
 |(a,g)::l,H,I,nd,hf,i=>by
  rw[bp,cy]at nd;have fa:=hf (a,g) (by simp);obtain⟨e,m,sm,n,j⟩:=z6x l (I.xW (u:=.tup g) fa (i (a,g) (by simp))) nd.2 (λq c=>by obtain⟨o,r⟩:=hf q (by simp[c]);exact⟨by rw[aO ((λq c z=>nd.1 (bx.mpr ⟨q,c,z⟩)) q c)];exact o,r⟩) λq c=>i q (by simp[c]);refine⟨e,m,(Same.upd fa.1).trans sm,λq c=>?_,λb h=>?_⟩
  .rcases ay.mp c with p|c;subst p
   .rw[j a nd.1];exact cK
   .exact n q c
  .rw[bp,ay,not_or]at h;rw[j b h.2,aO h.1]
theorem _root_.L2.Inv.writeF {D:Addr}(I:Inv X pins σ H s)(g:H D=Z9 (.lst f))(hm:s.heap.Ns X.env.locals m)(a:h.Ns X.env.locals m)
  (kp:∀b u,b≠X.env.locals->b≠D->s.heap.get? b=Z9 u->h.get? b=Z9 u) (new:z14 X.prog X.w (upd H D (.lst i)) h D (.lst i)):Inv X pins σ (upd H D (.lst i)) {s with heap:=h,toks:=t'}:=by
 have nd:∀b v,H b=Z9 v->v≠.lst f->upd H D (.lst i) b=Z9 v:=λb v q r=>by rw[aO (λz=>by subst z;rw[g]at q;cases q;exact r rfl)];exact q
 have ne:∀b,H b=Z8->b≠D:=λb n z=>by subst z;rw[g]at n;cases n
 have o:∀c v,H c=Z9 v->c≠X.env.locals:=λc v p z=>by subst z;rw[I.free]at p;cases p
 refine I.step (ch:=[]) (λ_ z=>nomatch z) (λb q j _ _ e n=>kp b q j (ne b n) e) (λb q j _ _ e n=>⟨q.slots,kp b q j (ne b n) e⟩) (λb q _ e n=>by rw[aO (ne b n)];exact n) (λb q _ e=>?_) (λb f q=>nd b _ q (λz=>nomatch z)) (λb u f q=>nd b _ q (λz=>nomatch z)) (λb ps q=>⟨#[],by rw[nd b _ q (λz=>nomatch z)];simp⟩) (λy k=>?_) (λb u e=>?_) I.bare
 .by_cases hb:b=X.env.locals
  .subst hb;obtain⟨t,_,_,l,_⟩:=a;exact⟨t,l⟩
  .by_cases hd:b=D
   .subst hd;obtain⟨_,_,_,_,x⟩:=new;exact⟨_,x⟩
   .exact⟨q,kp b q hb hd e⟩
 .rw[k.eq_nsMap,<-hm.eq_nsMap];exact a
 .by_cases hb:b=D
  .subst hb;rw[cK]at e;cases e;exact new
  .rw[aO hb]at e;refine(I.hok b u e).stay (λc v d q=>?_) (λc q=>nd c _ q (λz=>nomatch z)) λc f q=>nd c _ q (λz=>nomatch z);rcases d with rfl|d
   .exact kp _ v (o _ _ e) hb q
   .exact kp c v (o _ _ d) (λz=>by subst z;rw[g]at d;cases d) q
def Qf (i:Nat):TE:=λσ H Q=>∃d kvs,σ[i]?=Z9 (Z9 (.ref d))/\H d=Z9 (.dK kvs)/\∀p,H p=Z8->Q (.ref p) (upd H p (.ext λh=>h.IsItemsView p d))
theorem zg5 (hN:X.N[i]?=Z9 x)(n:Vis X.env.scope x)(e:VI x)(f:(x==("__classdict__":Str))=Z6)(b:(t.endLine==u.line)=Z7):
  PE X (.Call (.Attribute (.Name x p) "items" t) [] [] u) (Qf i):=by
 rintro pins s σ H Q I ⟨d,z,g,hd,q⟩
 refine wpAny_Call_method rfl rfl b PySem.F.plainAttrs_dict PySem.F.slot_dict_items PySem.F.type_dict_items (aI (rE hN n e f pins s σ H (λv l=>v=.ref d/\l=H) I ⟨_,g,rfl,rfl⟩) λov m A=>?_);obtain⟨y,l,j,r1,B,C⟩:=A;subst B C;cases r1;obtain⟨_,c,D,rel,a⟩:=zd j.hok hd;refine⟨a.typeIs,a.mapOf.noDict,?_⟩;refine method_meetsIn PySem.F.slot_dict_items PySem.F.entry_dict_items rfl (PySem.evalArgs_none ⟨rfl,a.typeIs,PySem.F.args_dict_items_1 _,_,meets_dict_items (nB X.prog X.w) d c,⟨D,a⟩,?_⟩);refine⟨.ref m.heap.objs.size,_,j.laid (o:=.ext λh=>h.IsItemsView m.heap.objs.size d) (λ_ _ q=>af _ q) (ah _) ⟨⟨_,b6 _ rfl,rfl,rfl⟩,⟨_,b6 _ rfl⟩,λE G ⟨o,ho,r⟩ k=>⟨o,k o ho,r⟩⟩,rfl,q _ (j.hok.fresh (ah _))⟩
end
section
variable {X:Cx}{pins:List (Addr×Obj)}{σ:L2.St}{H:Hp}{s:ak}
theorem z15 (O:OrdOn p)(I:Inv X pins σ H s)
  (P:H l=Z9 (.lst vs)) (ho:s.heap.get? l=Z9 (listOf g.toArray n)) (rv:Vals vs g) (R:Reps X.K H B vs a) (S:2<=a.length) (h64:a.length<64) (T:∀d∈a,p d)
  (ask:∀v,(∀b o,b≠X.env.locals->b≠l->s.heap.get? b=Z9 o->v.get? b=Z9 o)->wpAny (model X.prog X.w) A.in1 (pq g.toArray) (λU x=>x={s with heap:=v}/\∀i j C,i<a.length->j<a.length->C (bB (a.getD i .none) (a.getD j .none)) {s with heap:=v}->kas_ask X.prog X.w A.in1 U g i j C {s with heap:=v}) (λ_ _=>False) {s with heap:=v})
  (q:∀x D,Inv X pins σ (upd H l (.lst D)) x->Reps X.K H B D (z0r a)->Q .none x):wpAny (model X.prog X.w) A (call (.builtin "list.sort") [.ref l]) Q E s:=by
 have l1:=R.length;have l2:=rv.length;obtain⟨m,F,_⟩:=id I.loc
 have hb:X.base.get? l=none:=by
  cases e:X.base.get? l with
  |none=>rfl
  |some u=>have:=(I.bs l u e).2;rw[P]at this;cases this
 refine kat_lsort (vs:=g) ⟨F,I.bk,cc I.ok.iL I.ok.above⟩ (nX (λz=>by subst z;rw[I.free]at P;cases P) hb ho) (.head Gs) (by simp) (by omega) (by omega) λe1 v V W=>?_;have t:∀{h:Heap} {o:Obj},Fr X.base X.env.locals h m->News X.base X.env.locals h ((l,o)::rest X.base s.heap X.env.locals l)->∀b o,b≠X.env.locals->b≠l->s.heap.get? b=Z9 o->h.get? b=Z9 o:=λk r b o h1 S e=>z7e I.bk k (λq hq=>r q (ba _ hq)) b o h1 S e;refine aI (ask v (t V W)) λU x zz=>?_;obtain⟨rfl,G⟩:=zz;have el:g.length=a.length:=by omega
 rw[el];refine Dr (lt:=ltk (rank a)) (λi j C x y Y e hC=>?_) (kas_sort a.length) _ (HS (by omega)) rfl λx e=>?_
 .subst e;refine G i j C y Y ?_;rw[<-sJ O T y Y];exact hC _ rfl
 .subst e;refine⟨_,_,V,W,.head Gs,λh c k r=>?_⟩;have J:=(r _ a8).1;have L:=Ia O T (by omega);obtain⟨_,f⟩:=Dm a.length (by omega);generalize runT (ltk (rank a)) (kas_sort a.length)=M at L f J ⊢;have N:∀i∈M.toList,i<a.length:=λi y=>by have:=(f.toList.mem_iff).mp y;simpa using this
  have P6:(M.toList.map λi=>vs.getD i .bU).length=a.length:=by have:=f.toList.length_eq;simpa using this
  refine q _ (M.toList.map λi=>vs.getD i .bU) (I.writeF P F k.ns (t k r) ⟨by rw[fj];omega,_,c,Ab rv M.toList (λi y=>by rw[l1];exact N i y),J⟩) ?_;rw[<-L];exact Ac R M.toList N
end
theorem z42 {a:List Value}(c:s.heap.get? l=Z9 (cr "list" a.toArray n))(q:a.length<2)
  (h:∀g r,(∀b o,b≠l->s.heap.get? b=Z9 o->g.get? b=Z9 o)->g.get? l=Z9 (cr "list" a.toArray r)->Q .none {s with heap:=g}):
  wpAny (model prog w) A (call (.builtin "list.sort") [.ref l]) Q E s:=by
 refine kg qw ⟨_,c,rfl⟩ qb ?body (qx _);rw[qc];refine aa (m9 c rfl ?_);refine aa (j0 c rfl ?_);obtain⟨i,f⟩:∃i,(s.heap.update l (Obj.mapSeq λ_=>(#[]:Array Value))).get? l=Z9 (cr "list" #[] i):=⟨_,ja c λ_=>#[]⟩;have k:∀b o,b≠l->s.heap.get? b=Z9 o->(s.heap.update l (Obj.mapSeq λ_=>(#[]:Array Value))).get? b=Z9 o:=λb o hb e=>z1e hb e;generalize (s.heap.update l (Obj.mapSeq λ_=>(#[]:Array Value)))=j at f k ⊢;refine aa (me f rfl ?_);refine aa (qy ?_ (by rw[fj];simp;omega));apply aa;refine jg (dw ?_);have d:((j.push (cr "tuple" a.toArray 0)).push (cr "list" #[] 0)).get? l=Z9 (cr "list" #[] i):=af _ (af _ f);have m:∀b o,b≠l->s.heap.get? b=Z9 o->((j.push (cr "tuple" a.toArray 0)).push (cr "list" #[] 0)).get? b=Z9 o:=λb o hb e=>af _ (af _ (k b o hb e));generalize ((j.push (cr "tuple" a.toArray 0)).push (cr "list" #[] 0))=u at d m ⊢;have p:a.toArray.size<2:=by simpa using q
 rw[vh p,vh p];refine aa (av ?_);refine aa (av ?_);refine aa (me d rfl ?_);have t:(arrOf (SortSt.mk' general' (a.toArray.zip a.toArray) #[] 7 Z8)).map (·.2)=a.toArray:=by show(a.toArray.zip a.toArray).map (·.2)=a.toArray;simp;exact List.map_snd_zip (ah _)
 rw[t];refine aa (j0 d rfl ?_);simp;exact av ⟨_,rfl,h _ _ (λb o hb e=>z1e hb (m b o hb e)) (ja d λ_=>a.toArray)⟩
theorem IK {K:Z5}:∀{b:List V} {c:List D},b.length=c.length->(∀(i:Nat) v d,b[i]?=Z9 v->c[i]?=Z9 d->Rep K H B v d)->Reps K H B b c
 | [],[],_,_=>rfl
 |v::b,d::c,a,h=>Reps.cons (h 0 v d rfl rfl) (IK (by simpa using a) λi v d e f=>h (i+1) v d (by simpa using e) (by simpa using f))
 | [],_::_,a,_=>by cases a
 |_::_,[],a,_=>by cases a
theorem pF:∀b:List Addr,Vals (b.map V.ref) (b.map ZU)
 | []=>.nil
 |a::b=>.cons rfl (pF b)
section
variable {X:Cx}
def Qg (K:Z5):List V->Hp->VK->Prop:=λxs H Q=>∃p d kvs es B,xs=[.ref p]/\H p=Z9 (.ext λh=>h.IsItemsView p d)/\H d=Z9 (.dK kvs)/\bC K H B kvs es/\cG es=Z7/\lO (es.map ent)=Z7/\es.length<64/\∀w H',Same H H'->Rep K H' (nw H) w (.list (z0r (es.map ent)))->Q w H'
theorem Qh (hc:X.calm=Z7):CallR X (.builtin "sorted") (Qg X.K):=by
 rintro w s σ H xs us Q I r ⟨p,d,c,G,B,rfl,hp,hd,rs,him,hok,h64,q⟩
 obtain⟨u,rfl,rfl⟩:=vals1 r;obtain⟨M,_,_⟩:=I.hok p _ hp;obtain⟨hz,Qi,vs,rel,o,HH,ep,ho,Qj,S,r3⟩:=zd I.hok hd;have lk:=rel.length;have le:=rs.length;apply i6 qt p6 p7 (p8 _);apply aa;apply av;refine aa (kdx_collect (I.ok.hd hc) M ⟨o,HH,ho,Qj,S,r3⟩ (by omega) λt tk g hk hl hG=>?_);have I1:Inv X w σ H {s with heap:=t,toks:=tk}:=I.kept hk;have lz:g.length=c.length:=by omega
 have J:∀z∈g.zip (c.map λT=>[kV T.1,T.2]),∃j k v,g[j]?=Z9 z.1/\c[j]?=Z9 (k,v)/\z.2=[kV k,v]:=λz kH=>by
  obtain⟨j,hj,ej⟩:=gq kH;have hj':j<g.length/\j<c.length:=by rw[List.length_zip]at hj;omega
  refine⟨j,(c[j]'hj'.2).1,(c[j]'hj'.2).2,?_,au hj'.2,?_⟩
  .rw[<-ej,List.getElem_zip];exact au hj'.1
  .rw[<-ej];simp
 obtain⟨H1,I2,sm,ht,_⟩:=z6x (g.zip (c.map λT=>[kV T.1,T.2])) I1 (by rw[List.map_fst_zip (by grind)];exact hG.rise.imp λh=>cz h)
  (λz hz=>by obtain⟨j,k,v,P,_,_⟩:=J z hz;have U:=hG.above z.1 (ck P);exact I.nZ (lg U) (I.hok.fresh (lg U)))
  (λz hz=>by obtain⟨j,k,v,P,L,h3⟩:=J z hz;obtain⟨key,k',x,g1,g2,g3⟩:=hG.pairs j z.1 P;obtain⟨u,g4,ru⟩:=Qb rel L;rw[g4]at g1;cases g1;rw[h3];exact⟨by rw[fj];simp,[key,_],.cons (Qc g2) (.cons ru .nil),0,g3⟩)
 refine aa (jg ?_ (by grind));have hD:=I2.hok.fresh (ah _);have R:Inv X w σ (upd H1 t.objs.size (.lst (g.map V.ref))) {s with heap:=t.push (cr "list" (g.map ZU).toArray 0),toks:=tk}:=I2.laid (λ_ _ q=>af _ q) (ah _) ⟨by rw[ae];omega,_,0,pF g,b6 _ rfl⟩
 have N:Reps X.K (upd H1 t.objs.size (.lst (g.map V.ref))) (λ_=>False) (g.map V.ref) (G.map ent):=by
  refine IK (by grind) λi v dd P L=>?_;rw[a9]at P L;obtain⟨a,U,rfl⟩:=dq.mp P;obtain⟨ev,W,rfl⟩:=dq.mp L;have hi:i<c.length:=lz▸(aq.mp U).1;have Y:c[i]?=Z9 (c[i].1,c[i].2):=by simp[hi]
  obtain⟨dv,h4,ok,rv⟩:=bC.at rs Y;rw[h4]at W;cases W;have IL:=ht (a,[kV c[i].1,c[i].2]) (by refine c8.mpr ⟨i,?_⟩;rw[List.getElem?_zip_eq_some];exact⟨U,by rw[a9,Y];rfl⟩);refine⟨a,_,rfl,cL.of (by rw[aO (eC IL hD)];exact IL),Reps.cons (Qd ok) (Reps.cons ?_ rfl)⟩;exact Rep.iT (λb u e f=>by have:=sm b u e;rw[aO (eC this hD)];exact this) dv (bb.mp him _ (ck h4)) rv
 have hHD:H t.objs.size=none:=by
  cases e:H t.objs.size with
  |none=>rfl
  |some u=>have:=sm _ _ e;rw[hD]at this;cases this
 have E:∀F l,Inv X w σ (upd (upd H1 t.objs.size (.lst (g.map V.ref))) t.objs.size (.lst l)) F->Reps X.K (upd H1 t.objs.size (.lst (g.map V.ref))) (λ_=>False) l (z0r (G.map ent))->EP X w σ Q (.ref t.objs.size) F:=λF l O r4=>by
  refine⟨.ref t.objs.size,_,O,rfl,q _ _ (λb u e=>?_) ⟨_,l,rfl,.inl ⟨cK,hHD⟩,?_⟩⟩
  .have hb:=eC e hHD;rw[aO hb,aO hb];exact sm b u e
  .exact Reps.keep (fun b u e f=>by
    rcases f with f|f
    .exact f.elim
    .have hb:b≠t.objs.size:=λz=>by subst z;rw[cK]at e;cases e;exact f
     rw[aO hb];exact e) (λ_ z=>z.elim) _ r4
 have C:(t.push (cr "list" (g.map ZU).toArray 0)).get? t.objs.size=Z9 (cr "list" (g.map ZU).toArray 0):=b6 _ rfl;obtain⟨m,xX,_⟩:=id R.loc;by_cases L:G.length<2
 .refine aa (dw (z42 (s:={s with heap:=t.push (cr "list" (g.map ZU).toArray 0),toks:=tk}) C (by grind) λn n' kp DW=>av ⟨_,rfl,E _ _ (R.writeF cK xX (xX.at λo e=>kp _ o (λz=>by have :=I2.lt;rw[z]at this;exact cj _ this) e) (λb u _ hb e=>kp b u hb e) ⟨by rw[ae];omega,_,n',pF g,DW⟩) ?_⟩))
  have vD:z0r (G.map ent)=G.map ent:=by
   match G,L with
   | [],_=>rfl
   | [y],_=>rfl
   |_::_::_,L=>simp at L;omega
  rw[vD];exact N
 .have A:2<=(G.map ent).length:=by rw[ae];omega
  have D:(G.map ent).length<64:=by rw[ae];exact h64
  unfold lO at hok;simp only[fz,bb]at hok;have Aj:∀n:Heap,(∀b o,b≠X.env.locals->b≠t.objs.size->(t.push (cr "list" (g.map ZU).toArray 0)).get? b=Z9 o->n.get? b=Z9 o)->∀b o,(t.push (cr "list" (g.map ZU).toArray 0)).get? b=Z9 o->o.cls=.type "tuple"->b≠X.env.locals->n.get? b=Z9 o:=λn kp b o e hcl hL=>kp b o hL (λz=>by subst z;rw[C]at e;cases e;exact absurd hcl (by simp)) e;rcases hok with(hs|hs)|hs
  .exact aa (dw (z15 oV R cK C (pF g) N A D hs (λn kp=>z57 Z7 hs N (pF g) A n) λF l O r4=>av ⟨_,rfl,E F l O r4⟩))
  .exact aa (dw (z15 oW R cK C (pF g) N A D hs (λn kp=>z57 Z6 hs N (pF g) A n) λF l O r4=>av ⟨_,rfl,E F l O r4⟩))
  .split at hs
   case h_2=>cases hs
   rename_i y0 _ _;simp only[a6,bb,j4]at hs;obtain⟨fW,hs⟩:=hs;cases y0 with
   |nil=>cases fW
   |cons y1 yr=>exact aa (dw (z15 (sI _) R cK C (pF g) N A D hs (λn kp=>zdu R _ _ hs N (pF g) A (Aj n kp)) λF l O r4=>av ⟨_,rfl,E F l O r4⟩))
end
section
variable {X:Cx}
theorem zlc {i:Nat}(A:X.calm=Z7)(hm:X.mg f=Z8)(hb:eh f=Z9 (.builtin "sorted"))(C:Gl X f)(hn:f≠"__name__")(n:VI f)
  (hN:X.N[i]?=Z9 x) (D:Vis X.env.scope x) (o:VI x) (r:(x==("__classdict__":Str))=Z6) (c:(E.endLine==cp.line)=Z7):
  PE X (.Call (.Name f p) [.Call (.Attribute (.Name x O) "items" E) [] [] cp] [] pos) (tD X.K λy=>match y[i]? with
   |some (Z9 (_,.dict es))=>if cG es&&lO (es.map ent)&&decide (es.length<64)then .ok (.fr,.list (z0r (es.map ent)))else .no
   |_=>.no):=
 PE.imp (zh (Qh A) hm hb (jR (zg5 hN D o r c) rK rfl) rfl C hn n) λP H Q ⟨y,F,z,so,e,q⟩=>by
  dsimp only at e
  split at e
  case h_2=>cases e
  rename_i g es hr;split at e
  case isFalse=>cases e
  rename_i b;cases e;simp at b;obtain⟨⟨G,I⟩,J⟩:=b;obtain⟨d,j,B,s,t,R,L⟩:=Qe so hr;refine⟨d,j,s,t,λv m=>⟨v,d,j,es,B,rfl,cK,by rw[aO (eC t m)];exact t,L.same (Same.upd m) λ_ z=>z,G,I,J,λw M sm u=>q w M ((Same.upd m).trans sm) (u.weak λa ha=>?_)⟩⟩;cases a with
  |none=>exact ha
  |some a=>
   have k:upd H v (.ext λh=>h.IsItemsView v d) a=none:=ha;by_cases l:a=v
   .subst l;exact m
   .rw[aO l]at k;exact k
end
theorem z7q (ho:s.heap.get? t=Z9 o)(j:o.cls=.type "tuple")(hd:o.data=.seq a.toArray n)(c:a.length<=bf)
  (h:∀d,(∀b u,s.heap.get? b=Z9 u->d.get? b=Z9 u)->s.heap.objs.size<=d.objs.size->Q a {s with heap:=d}):wpAny (model prog w) A (collect (.ref t)) Q E s:=by
 have i:(s.heap.push (cr "list" #[] 0)).get? t=Z9 o:=af _ ho;have f:(s.heap.push (cr "list" #[] 0)).get? s.heap.objs.size=Z9 (cr "list" #[] 0):=b6 _ rfl;have g:((#[]:Array Value)++a.toArray).size<=bf+1:=by exact Nat.le_succ_of_le (by simpa using c)
 apply aa;apply wpAny_runValue;refine ku entry_proto_collect' ?_;apply aa;refine jg (av ⟨Code.quiet_builtin _ (by decide+kernel),ku entry_list_iadd' ?_⟩);show wpAny (model prog w) _ (nh (.ref s.heap.objs.size) (.ref t) (.ref s.heap.objs.size)) _ E ⟨s.heap.push (cr "list" #[] 0),s.gens,s.drawn,s.toks,s.os⟩;unfold nh;apply aa;refine m8 ⟨o,i,j⟩ ?_;have k:(Value.type "tuple"==Value.type "tuple")=true:=by rfl
 rw[k,ln];apply aa;refine m9 i hd ?_;apply aa;refine m9 f rfl ?_;apply aa;refine j0 f rfl ?_ (e8 _) g;apply av;apply aa;refine u3 (ja f (·++a.toArray)) ?_;show wpAny (model prog w) A (pure ((#[]:Array Value)++a.toArray).toList) Q E _;have l:((#[]:Array Value)++a.toArray).toList=a:=by simp
 rw[l];exact av (h ((s.heap.push (cr "list" #[] 0)).update s.heap.objs.size (Obj.mapSeq (·++a.toArray))) (λb u e=>z1e (cz (bg e)) (af _ e)) (by rw[pi,u9];exact Nat.le_succ _))
section
variable {X:Cx}
theorem Qk (hu:X.A.units+64<cLine):CallR X (.builtin "sorted") (rAgg X.K "sorted"):=by
 intro pins s σ H xs us Q I r h;obtain⟨B,x,dx,l,ys,d,hx,rx,e,e2,q⟩:=h;cases l with
 |true=>exact ze8 hu I r hx rx e e2 q
 |false=>
  subst hx;obtain⟨a,vs,rfl,vC,rs⟩:=sG rx e;have e3:(if((Z6||imms ys)&&oJ ys&&decide (ys.length<64))=Z7 then Res.ok (Z1 (z0r ys))else if(Z6&&z7p ys)=Z7 then Res.ok (Z1 (z0r ys))else .no)=.ok d:=e2;cases hc:(Z6||imms ys)&&oJ ys&&decide (ys.length<64)with
  |false=>rw[hc]at e3;cases e3
  |true=>
   rw[hc]at e3;cases e3;obtain⟨hc,h64⟩:=bj.mp hc;obtain⟨him,hok⟩:=bj.mp hc;have h64:=vp h64;obtain⟨u,rfl,ru⟩:=vals1 r;cases ru;obtain⟨its,rv,⟨o,n,ho,hcl,Vo,hda⟩,hz⟩:=I.lG vC;have DU:its.length=ys.length:=by rw[<-rv.length,rs.length]
   have sz:its.length<=bf:=by rw[<-rv.length];exact hz
   apply i6 qt p6 p7 (p8 _);unfold Builtin.«sorted»;apply aa (m:=checkCount "sorted" 1 1 _);apply av;refine aa (z7q ho hcl hda sz λh' hk hz9z=>?_);have I1:Inv X pins σ H {s with heap:=h'}:=I.kept (t':=s.toks) hk;refine aa (jg ?_ sz);have hHD:H h'.objs.size=none:=I1.hok.fresh (ah _);have hoD:(h'.push (cr "list" its.toArray 0)).get? h'.objs.size=some (cr "list" its.toArray 0):=b6 _ rfl;have I3:Inv X pins σ (upd H h'.objs.size (.lst vs)) {s with heap:=h'.push (cr "list" its.toArray 0)}:=I1.laid (a:=h'.objs.size) (o:=.lst vs) (t':=s.toks) (λ_ _ z=>af _ z) (ah _) ⟨hz,its,0,rv,hoD⟩;have rp:Reps X.K (upd H h'.objs.size (.lst vs)) (λ_=>False) vs ys:=(Reps.immB (B':=λ_=>False) ys him rs).same (Same.upd hHD) λ_ z=>z
   have fin:∀s' dF,Inv X pins σ (upd (upd H h'.objs.size (.lst vs)) h'.objs.size (.lst dF)) s'->Reps X.K (upd H h'.objs.size (.lst vs)) (λ_=>False) dF (z0r ys)->EP X pins σ Q (.ref h'.objs.size) s':=λs' dF I4 r4=>by
    refine⟨.ref h'.objs.size,_,I4,rfl,q _ _ (λb u z=>?_) ⟨_,dF,rfl,.inl ⟨cK,.inl hHD⟩,?_⟩⟩
    .have hb:=eC z hHD;rw[aO hb,aO hb];exact z
    .refine Reps.keep (λb u z f=>?_) (λ_ z=>z.elim) _ r4;rcases f with f|f
     .exact f.elim
     .have hb:b≠h'.objs.size:=λz'=>by subst z';rw[cK]at z;cases z;exact f
      rw[aO hb];exact z
   show wpAny _ _ (tz [ZU h'.objs.size] (call (.builtin "list.sort") [.ref h'.objs.size])>>=_) _ _ {s with heap:=h'.push (cr "list" its.toArray 0)};obtain⟨m,xX,_⟩:=id I3.loc;have Ql:X.env.locals≠h'.objs.size:=λz=>by have:=I1.lt;rw[z]at this;exact cj _ this
   by_cases h2:ys.length<2
   .have es:z0r ys=ys:=by
     match ys,h2 with
     | [],_=>rfl
     | [y],_=>rfl
     |_::_::_,h2=>simp at h2;omega
    refine aa (dw (z42 (s:={s with heap:=h'.push (cr "list" its.toArray 0)}) hoD (by omega) λkZ n' kp DW=>av ⟨_,rfl,fin _ vs (I3.writeF (t':=s.toks) cK xX (xX.at λo e=>kp _ o Ql e) (λb u _ hb e=>kp b u hb e) ⟨hz,its,n',rv,DW⟩) (by rw[es];exact rp)⟩))
   .have hZ:2<=ys.length:=o9 h2;have Aj:∀kZ:Heap,(∀b o,b≠X.env.locals->b≠h'.objs.size->(h'.push (cr "list" its.toArray 0)).get? b=Z9 o->kZ.get? b=Z9 o)->∀b o,(h'.push (cr "list" its.toArray 0)).get? b=Z9 o->o.cls=.type "tuple"->b≠X.env.locals->kZ.get? b=Z9 o:=λkZ kp b o e hcl hL=>kp b o hL (λz=>by subst z;rw[hoD]at e;cases e;exact absurd hcl (by simp)) e;replace hok:=(fz _ _).mp hok;rcases hok with hok|hok
    case inr=>replace hok:=((fz _ _).mp hok).resolve_left λz=>h2 (vp z);obtain⟨p,t,O,hp,hy,gR⟩:=DS hok;exact aa (dw (z15 (A:=X.A.in1) O I3 cK hoD rv rp hZ h64 hp (λkZ kp=>zb8 I3 hy gR rp rv hZ (Aj kZ kp) (by show X.A.units+1+1+40<cLine;omega)) λs' dF I4 r4=>av ⟨_,rfl,fin s' dF I4 r4⟩))
    unfold lO at hok;simp only[fz,bb]at hok;rcases hok with(hs|hs)|hs
    .exact aa (dw (z15 (A:=X.A.in1) oV I3 cK hoD rv rp hZ h64 hs (λkZ kp=>z57 Z7 hs rp rv hZ kZ) λs' dF I4 r4=>av ⟨_,rfl,fin s' dF I4 r4⟩))
    .exact aa (dw (z15 (A:=X.A.in1) oW I3 cK hoD rv rp hZ h64 hs (λkZ kp=>z57 Z6 hs rp rv hZ kZ) λs' dF I4 r4=>av ⟨_,rfl,fin s' dF I4 r4⟩))
    .split at hs
     case h_2=>cases hs
     rename_i y0 _ _ _;simp only[a6,bb,j4]at hs;obtain⟨fW,hs⟩:=hs;cases y0 with
     |nil=>cases fW
     |cons y1 yr=>exact aa (dw (z15 (A:=X.A.in1) (sI _) I3 cK hoD rv rp hZ h64 hs (λkZ kp=>zdu I3 _ _ hs rp rv hZ (Aj kZ kp)) λs' dF I4 r4=>av ⟨_,rfl,fin s' dF I4 r4⟩))
end
def iB (h:Heap)(l:Bool)(a:Addr)(xs:Array Value):Prop:=match l with
 |true=>h.IsList a xs
 |false=>h.IsTuple a xs
def sT (h:Heap)(l:Bool)(it a:Addr)(i:Nat):Prop:=match l with
 |true=>h.IsListIter it a i
 |false=>h.IsTupleIter it a i
def DX (K:Z5)(H:Hp)(l:Bool)(a:Addr)(vs:List V):Prop:=match l with
 |true=>SqL K H a vs
 |false=>cL K H a vs
def Ak (K:Z5)(H:Hp)(B:Ad->Prop)(l:Bool)(a:Addr)(vs:List V):Prop:=match l with
 |true=>(H a=Z9 (.lst vs)/\B (Z9 a))\/(FL K H a vs/\B Z8)
 |false=>cL K H a vs
abbrev xY (l:Bool)(a:Addr):Obj:={cls:=.type (if l then "list_iterator"else "tuple_iterator"),data:=.fields #[.ref a,.int 0 0]}
theorem Ak.keep {K:Z5}(h:Ak K H B l a c)(k:Kp B H d):DX K d l a c:=by
 cases l with
 |true=>
  rcases h with⟨h,b⟩|⟨⟨o,h⟩|h,_⟩
  .exact .inl (.inl (k a _ h (.inl b)))
  .exact .inl (.inr ⟨o,k a _ h (.inr True.intro)⟩)
  .exact .inr h
 |false=>exact cL.keep k h
theorem Ak.of {K:Z5}(r:Rep K H B v d)(e:Cn d=.ok xs):∃l a vs,v=.ref a/\Ak K H B l a vs/\Reps K H B vs xs/\xs.length<=bD:=by
 cases d<;>try (exact(fV e).elim)
 case list ds=>
  have e:(if decide (ds.length<=bD)=Z7 then Res.ok ds else Res.no)=Res.ok xs:=e;split at e
  .rename_i hc;cases e;obtain⟨a,vs,rfl,h,rs⟩:=r;exact⟨Z7,a,vs,rfl,h,rs,vp hc⟩
  .cases e
 case tuple ds=>
  have e:(if decide (ds.length<=bD)=Z7 then Res.ok ds else Res.no)=Res.ok xs:=e;split at e
  .rename_i hc;cases e;obtain⟨a,vs,rfl,h,rs⟩:=r;exact⟨Z6,a,vs,rfl,h,rs,vp hc⟩
  .cases e
section
variable {X:Cx}{pins:List (Addr×Obj)}{σ:L2.St}{H:Hp}{s:ak}
theorem DX.items (I:Inv X d f H s)(h:DX X.K H l a e):∃b,Vals e b/\iB s.heap l a b.toArray/\e.length=b.length:=by
 cases l with
 |true=>obtain⟨b,c,p,_⟩:=I.list h;exact⟨b,c,p.isList,c.length⟩
 |false=>obtain⟨b,c,p,_⟩:=I.tuple h;exact⟨b,c,p,c.length⟩
end
theorem sT.live (x:sT h l it a i):∃o,h.get? it=Z9 o/\∀v,o.data≠.cell v:=by cases l<;>(obtain⟨o,b,_,hd⟩:=x;exact⟨o,b,λv z=>by rw[hd]at z;cases z⟩)
theorem sT.keep (x:sT h l it a i)(k:∀o,h.get? it=Z9 o->b.get? it=Z9 o):sT b l it a i:=by cases l<;>(obtain⟨o,c,r⟩:=x;exact⟨o,k o c,r⟩)
theorem sT.new (x:h.get? b=Z9 (xY l a)):sT h l b a 0:=by cases l<;>exact⟨_,x,rfl,rfl⟩
theorem iB.lt (x:iB h l a c):a<h.objs.size:=by cases l<;>(obtain⟨o,b,_⟩:=x;exact bg b)
theorem iB.push (x:iB h l a b)(o:Obj):iB (h.push o) l a b:=by cases l<;>(obtain⟨q,c,r⟩:=x;exact⟨q,af _ c,r⟩)
def Rise (t:bt):Prop:=t.place.toList.Pairwise (· < ·)/\t.dummies=#[]
theorem zgk (f:Array Nat)(j:Nat)(hs:f.toList.Pairwise (· < ·)):∀c e d,d-e<=c->e<=d->d<=f.size->(∀i,i<e->∀v,f[i]?=Z9 v->v<j)->(∀i,d<=i->∀v,f[i]?=Z9 v->j<=v)->
  let p:=SetTable.below.go f j c e d
  p<=f.size/\(∀i,i<p->∀v,f[i]?=Z9 v->v<j)/\∀i,p<=i->∀v,f[i]?=Z9 v->j<=v:=by
 intro c
 induction c with
 |zero=>
  intro e d x y l m n;have:e=d:=by omega
  subst this;exact⟨l,m,n⟩
 |succ c w=>
  intro e d x y l m n;unfold SetTable.below.go;by_cases g:e<d
  .rw[vh g]
   dsimp only
   have hm:(e+d)/2<f.size:=by omega
   have h:=i8 hm;have k:∀a b q r,a<b->f[a]?=Z9 q->f[b]?=Z9 r->q<r:=λa b q r s z A=>by obtain⟨B,rfl⟩:=cx.mp z;obtain⟨hb,rfl⟩:=cx.mp A;have:=d8.mp hs a b (by simpa using B) (by simpa using hb) s;simpa using this
   have C:f.getD ((e+d)/2) j=f[(e+d)/2]:=by rw[eu,h];rfl
   rw[C];by_cases o:f[(e+d)/2]<j
   .rw[vh o];refine w _ _ (by omega) (by omega) l (λi t v ev=>?_) n;by_cases u:i=(e+d)/2
    .subst u;rw[h]at ev;cases ev;exact o
    .exact m7 (k i _ v _ (by omega) ev h) o
   .rw[vm o];refine w _ _ (by omega) (by omega) (by omega) m λi t v ev=>?_;by_cases u:i=(e+d)/2
    .subst u;rw[h]at ev;cases ev;omega
    .have :=k _ i _ v (by omega) h ev;omega
  .rw[vm g];have:e=d:=by omega
   subst this;exact⟨l,m,n⟩
theorem DY (hs:xs.toList.Pairwise (· < ·))(j:Nat):SetTable.below xs j<=xs.size/\(∀i,i<SetTable.below xs j->∀v,xs[i]?=Z9 v->v<j)/\∀i,SetTable.below xs j<=i->∀v,xs[i]?=Z9 v->j<=v:=zgk xs j hs xs.size 0 xs.size (by omega) (e8 _) (ah _) (λi h=>absurd h (Nat.not_lt_zero _)) λi h v e=>by rw[Array.getElem?_eq_none h]at e;cases e
theorem Qm (hd:t.dummies=#[])(hf:Nat->Int)(h:Int):∀a p j d,p.dummy=Z8->SetTable.probe.go t hf h a p=Z9 (.empty j d)->d=Z8/\t.slot j=.empty:=by
 have nd:∀j,t.slot j≠.dummy:=λj z=>by
  unfold SetTable.slot SetTable.has at z;rw[hd]at z
  dsimp only at z
  split at z
  .cases z
  .rw[vm (by simp)]at z;cases z
 intro a
 induction a with
 |zero=>intro p j d _ e;cases e
 |succ a c=>
  intro p j d b e;unfold SetTable.probe.go at e;split at e
  .rename_i hs;cases e;exact⟨b,hs⟩
  .rename_i hs;simp_all
  .split at e
   .cases e
   .refine c _ j d ?_ e;unfold SetTable.advance;split<;>exact b
theorem Qn (r:Rise t)(e:t.freeSlot h=Z9 (j,b)):b=Z6/\∀i:Nat,t.place[i]?≠Z9 j:=by
 unfold SetTable.freeSlot at e;split at e
 .rename_i a d k;obtain⟨rfl,hs⟩:=Qm r.2 _ _ _ _ _ _ rfl k;cases e;refine⟨rfl,λi c=>?_⟩;have c:t.place[i]?=Z9 a:=c;unfold SetTable.slot at hs
  dsimp only at hs
  obtain⟨q,l,m⟩:=DY r.1 a;rcases uj i (SetTable.below t.place a)with f|n
  .have:=l i f _ c;simp_all
  .have hn:t.place[SetTable.below t.place a]?=Z9 a:=by
    rcases uj (SetTable.below t.place a) i with g|g
    .have o:=(cx.mp c).1;have s:=m _ (ah _) _ (i8 (by omega));obtain⟨p,u⟩:=cx.mp c;have:=d8.mp r.1 _ i (by grind) (by simpa using p) g;simp at this;omega
    .have :i=SetTable.below t.place a:=by omega
     rw[<-this];exact c
   rw[hn]at hs;simp at hs
 .cases e
theorem Qo {b:Type}(a:Array b)(p:Nat)(x:b)(c:p<=a.size):(SetTable.insertAt a p x).toList=a.toList.take p++x::a.toList.drop p:=by unfold SetTable.insertAt;simp;rw[fu (l:=a.toList.drop p) (g7▸ah _)]
theorem Qp (r:Rise t)(hj:∀i:Nat,t.place[i]?≠Z9 j):Rise (t.put j).1:=by
 obtain⟨h1,h2,h3⟩:=DY r.1 j;constructor
 .show(SetTable.insertAt t.place (SetTable.below t.place j) j).toList.Pairwise _;rw[Qo _ _ _ h1];have ps:=r.1;rw[<-d6 (SetTable.below t.place j) t.place.toList]at ps;obtain⟨p1,p2,p3⟩:=dr.mp ps;refine dr.mpr ⟨p1,bn.mpr ⟨λv hv=>?_,p2⟩,λa ha b hb=>?_⟩
  .obtain⟨i,hi⟩:=c8.mp hv;rw[kx]at hi;have e1:t.place[SetTable.below t.place j+i]?=Z9 v:=gy▸hi;have:=h3 _ (by omega) v e1;have ne:v≠j:=λz=>hj _ (z▸e1);omega
  .have aj:a<j:=by
    obtain⟨i,hi⟩:=c8.mp ha;rw[g9]at hi;split at hi
    .rename_i eF;exact h2 i eF a (gy▸hi)
    .cases hi
   rcases ay.mp hb with rfl|hb
   .exact aj
   .exact p3 a ha b hb
 .show(if SetTable.has t.dummies j then _ else t.dummies)= #[];rw[r.2];unfold SetTable.has;rw[vm (by simp)]
theorem Qq (a:Array (Int×Value))(h:Int)(x:Value)(r:t.plain=Z7->Rise t):(ve t a h x).2.1.plain=Z7->Rise (ve t a h x).2.1:=by
 unfold ve;split
 .rename_i j b e
  dsimp only
  unfold SetTable.orStandIn;split
  .intro z;have c:=r z;exact Qp c (Qn c e).2
  .intro z;cases z
 .intro z;cases z
theorem Qr {b:Bool}(e:SetTable.laid d finger moves i b hs=Z9 (t,o)):Rise t:=by
 unfold SetTable.laid at e;cases hl:SetTable.layClean d hs with
 |none=>rw[hl]at e;cases e
 |some f=>
  rw[hl]at e;rw[<-(vo (vn e)).1];refine⟨?_,rfl⟩
  have gen:∀l:List Nat,l.Pairwise (· < ·)->((l.filterMap λj=>(f.getD j Z8).map (j,·)).map (·.1)).Pairwise (· < ·)/\∀v∈(l.filterMap λj=>(f.getD j Z8).map (j,·)).map (·.1),v∈l:=by
   intro l
   induction l with
   |nil=>exact λ_=>⟨.nil,λ_ h=>by cases h⟩
   |cons a l m=>
    intro n;obtain⟨p,q⟩:=bn.mp n;obtain⟨i1,g⟩:=m q;rw[dg];cases r:(f.getD a Z8).map (a,·)with
    |none=>exact⟨i1,λv c=>.tail _ (g v c)⟩
    |some z=>
     obtain⟨k,_,rfl⟩:=dq.mp r;refine⟨bn.mpr ⟨λv c=>p v (g v c),i1⟩,λv c=>?_⟩;rcases ay.mp c with rfl|c
     .exact .head _
     .exact .tail _ (g v c)
  exact(gen _ List.pairwise_lt_range).1
theorem Qs (b:Array (Int×Value))(n:Nat):(mh t b n).2.1.plain=Z7->Rise (mh t b n).2.1:=by
 unfold mh;split
 .rename_i c a e
  dsimp only
  split
  .exact λ_=>Qr e
  .intro z;cases z
 .intro z;cases z
structure DZ (prog:bu)(w:World)(h:Heap)(S:Addr)(f:Int->Bool)(c:Nat)(es:Array (Int×Value))(ep:Nat)(t:bt)(o:Obj):Prop where
 at_:h.get? S=Z9 o
 ex:o.ExactSet
 dt:o.data=.set es ep t
 el:ElemsOf (lq prog w) es.toList
 mem:∀k,f k=Z7↔∃e∈es.toList,(lq prog w).is k e.2=Z7
 wz:es.size<scanBound
 fit:t.fits es.size=Z7
 cnt:es.size=c
 rs:t.plain=Z7->Rise t
 ld:t.led=!w.params.followText "set-order"
def IsIS (prog:bu)(w:World)(h:Heap)(S:Addr)(f:Int->Bool)(c:Nat):Prop:=∃es ep t o,DZ prog w h S f c es ep t o
def addI (p:(Int->Bool)×Nat)(z:Int):(Int->Bool)×Nat:=(λk=>p.1 k||decide (k=z),if p.1 z then p.2 else p.2+1)
theorem Qt (t:bt)(b:Array (Int×Value))(n:Nat):(mh t b n).2.1.led=t.led:=by
 unfold mh;split
 .rename_i d a e
  dsimp only
  split
  .unfold SetTable.relaid SetTable.laid at e;cases c:SetTable.layClean (SetTable.sizeAbove n-1) (b.map (·.1))with
   |none=>rw[c]at e;cases e
   |some f=>rw[c]at e;rw[<-(vo (vn e)).1]
  .rfl
 .rfl
theorem Qu (t:bt)(es:Array (Int×Value))(h:Int)(x:Value):(ve t es h x).2.1.led=t.led:=by
 unfold ve;split
 .unfold SetTable.orStandIn
  dsimp only
  split<;>rfl
 .rfl
section
variable {prog:bu}{w:World}{A:fq}{E:Value->ak->Prop}{s:ak}
theorem IsIS.keep {S:Addr}(x:IsIS prog w h S f c)(k:∀o,h.get? S=Z9 o->a.get? S=Z9 o):IsIS prog w a S f c:=by obtain⟨b,ep,t,o,x⟩:=x;exact⟨b,ep,t,o,{x with at_:=k o x.at_}⟩
theorem IM {S:Addr}{h:Heap}(ho:h.get? S=Z9 o)(hd:o.data=.set c ep t)(a:Array (Int×Value))(b:bt):(h.update S (Obj.putSet a b)).get? S=Z9 {o with data:=.set a (ep+1) b}:=by have q:=j3 (Obj.putSet a b) ho (by rw[putSet_of a b hd];rfl);rw[putSet_of a b hd]at q;exact q
theorem add_int {S:Addr}{p:(Int->Bool)×Nat}{z:Int}{u:Tok}{Q:Bool->ak->Prop}(x:IsIS prog w s.heap S p.1 p.2)(room:p.2+1<scanBound)(fin:∀r h',gi S s.heap h'->IsIS prog w h' S (addI p z).1 (addI p z).2->Q r {s with heap:=h'}):
  wpAny (model prog w) A (setAddHashed S (.int z u) ((lq prog w).hash z)) Q E s:=by
 obtain⟨es,ep,t,o,x⟩:=x;have key:=intKind_is prog w z u;have hc:=x.cnt
 delta setAddHashed setAddHashedIn
 apply dw;apply aa;refine wpAny_setState_of x.at_ x.dt x.fit ?_
 dsimp only
 rw[byScan_of (knd:=lq prog w) rfl x.wz x.el];rw[vh rfl]
 delta setAddByScan
 apply aa;apply aa;apply ip;apply aa;refine wpAny_setScan_of key x.at_ x.dt x.fit x.el ?_;cases hr:es.toList.findIdx? (λe=>(lq prog w).is z e.2)with
 |some j=>
  obtain⟨eF,Qv,_⟩:=List.findIdx?_eq_some_iff_getElem.mp hr;have IP:p.1 z=true:=(x.mem z).mpr ⟨_,f0 eF,Qv⟩;apply av;apply av;refine fin Z6 s.heap (Heap.SameBut.refl S s.heap) ⟨es,ep,t,o,?_⟩;have e2:(addI p z).2=p.2:=by show(if p.1 z then p.2 else p.2+1)=p.2;rw[vh IP]
  refine{x with mem:=λk=>?_,cnt:=by rw[e2];exact hc};show(p.1 k||decide (k=z))=Z7↔_;rw[fz,decide_eq_true_iff,<-x.mem k];exact⟨λh=>h.elim id λe=>e▸IP,Or.inl⟩
 |none=>
  have out:p.1 z=false:=by
   cases hk:p.1 z with
   |false=>rfl
   |true=>obtain⟨e,he,hp⟩:=(x.mem z).mp hk;have this:=n9.mp hr e he;rw[hp]at this;cases this
  have e2:(addI p z).2=p.2+1:=by show(if p.1 z then p.2 else p.2+1)=p.2+1;rw[vm (by rw[out];decide)]
  have say:∀(b:Bool) {s1:ak} {Q':Unit->ak->Prop},Q' () s1->wpAny (model prog w) A (match b with|true=>rule "set.scan.the-table-gave-way"|false=>pure ()) Q' E s1:=λb s1 Q' q=>by
   cases b
   .exact av q
   .exact ip q
  have pm:=layNew_perm t es ((lq prog w).hash z) (.int z u);have ft:=layNew_fits t es ((lq prog w).hash z) (.int z u);have nl:=(Qu t es ((lq prog w).hash z) (.int z u)).trans x.ld;have nr:=Qq (t:=t) es ((lq prog w).hash z) (.int z u) x.rs
  dsimp only
  generalize ve t es ((lq prog w).hash z) (.int z u)=L at pm ft nl nr ⊢;obtain⟨es1,t1,was,D0⟩:=L
  dsimp only at pm ft nl nr ⊢
  rw[ui]at pm;have sz:es1.size=p.2+1:=by rw[<-aw,pm.length_eq,ao,aw,hc];rfl
  have IQ:ElemsOf (lq prog w) es1.toList:=(x.el.push key rfl).perm pm;have xZ:∀k,(addI p z).1 k=Z7↔∃e∈es1.toList,(lq prog w).is k e.2=true:=mem_push_iff key x.mem pm
  have store:∀{R:Option Bool->ak->Prop},(∀h',gi S s.heap h'->IsIS prog w h' S (addI p z).1 (addI p z).2->R (Z9 Z7) {s with heap:=h'})->∀(t2:bt),t2.fits es1.size=Z7->(t2.plain=Z7->Rise t2)->t2.led=(!w.params.followText "set-order")->wpAny (model prog w) A (do
    storeSet S es1 t2
    if(!was&&t2.tooFull)=Z7 then do
       (match(mh t2 es1 (SetTable.grown es1.size)).2.2 with|true=>rule "set.scan.the-table-gave-way"|false=>pure ())
       storeSet S (mh t2 es1 (SetTable.grown es1.size)).1 (mh t2 es1 (SetTable.grown es1.size)).2.1
       pure (Z9 Z7)
     else pure (Z9 Z7)) R E s:=λ{R} hR t2 f2 p2 l2=>by
   have qQ:es1.size<=bf:=fits_of_scanBound (by omega);apply aa;refine ul x.at_ x.dt ?_ qQ;have g1:=IM x.at_ x.dt es1 t2;split
   .have pD:=relayAll_perm t2 es1 (SetTable.grown es1.size);have D1:=relayAll_fits t2 es1 (SetTable.grown es1.size);have D3:=Qs (t:=t2) es1 (SetTable.grown es1.size);have D4:=(Qt t2 es1 (SetTable.grown es1.size)).trans l2;generalize mh t2 es1 (SetTable.grown es1.size)=Rl at pD D1 D3 D4 ⊢;obtain⟨vD,t3,gv⟩:=Rl
    dsimp only at pD D1 D3 D4 ⊢
    have D5:vD.size=es1.size:=by rw[<-aw,pD.length_eq,aw]
    apply aa;refine say gv ?_;apply aa;refine ul g1 rfl ?_ (by rw[D5];exact qQ);refine av (hR _ ((m4 s.heap S _).trans (m4 _ S _)) ⟨vD,ep+1+1,t3,{o with data:=.set vD (ep+1+1) t3},?_⟩);exact{at_:=IM g1 rfl vD t3,ex:=x.ex,dt:=rfl,el:=IQ.perm pD,mem:=λk=>(xZ k).trans ⟨λ⟨e,he,q⟩=>⟨e,pD.mem_iff.mpr he,q⟩,λ⟨e,he,q⟩=>⟨e,pD.mem_iff.mp he,q⟩⟩,wz:=by rw[D5,sz];exact room,fit:=D1,cnt:=by rw[D5,sz,e2],rs:=D3,ld:=D4}
   .refine av (hR _ (m4 s.heap S _) ⟨es1,ep+1,t2,{o with data:=.set es1 (ep+1) t2},?_⟩);exact{at_:=g1,ex:=x.ex,dt:=rfl,el:=IQ,mem:=xZ,wz:=by rw[sz];exact room,fit:=f2,cnt:=by rw[sz,e2],rs:=p2,ld:=l2}
  apply aa;refine say D0 ?_;have hv:hashByValue 8 (.int z u)=pure true:=rfl;split
  .apply aa;rw[hv];refine av ?_;refine store (λh' sb ts=>?_) t1 ft nr nl;exact av (fin Z7 h' sb ts)
  .apply aa;refine av ?_;refine store (λh' sb ts=>?_) t1 ft nr nl;exact av (fin Z7 h' sb ts)
end
def Qw (m:Nat):Prop:=m=7\/m=31\/m=127
section
variable {t:bt}
structure Tb (t:bt)(n:Nat):Prop where
 ok:Qw t.mask
 rs:Rise t
 sz:t.place.size=n
 le:∀(i v:Nat),t.place[i]?=Z9 v->v<=t.mask
theorem Qx (r:Rise t)(j:Nat):t.slot j=.empty/\(∀i:Nat,t.place[i]?≠Z9 j)\/∃i,t.slot j=.live i/\t.place[i]?=Z9 j:=by
 unfold SetTable.slot;by_cases h:t.place[SetTable.below t.place j]?=Z9 j
 .exact .inr ⟨_,by rw[vh (beq_iff_eq.mpr h)],h⟩
 .refine .inl ⟨?_,λi hi=>?_⟩
  .rw[vm (by rw[beq_iff_eq];exact h),vm];unfold SetTable.has;rw[r.2];simp
  .obtain⟨h1,h2,h3⟩:=DY r.1 j;rcases Nat.lt_trichotomy i (SetTable.below t.place j)with eF|heq|Qy
   .exact absurd (h2 i eF _ hi) (cj _)
   .exact h (heq▸hi)
   .obtain⟨ha,qa⟩:=cx.mp hi;have e1:t.place[SetTable.below t.place j]?=Z9 _:=i8 (by omega);have g1:=h3 _ (ah _) _ e1;have:=d8.mp r.1 _ i (by rw[aw];omega) (by simpa using ha) Qy;simp only[Array.getElem_toList]at this;omega
theorem Tb.room (T:Tb t n)(hn:n<=t.mask):∃e,e<=t.mask/\t.slot e=.empty:=by
 refine Classical.byContradiction λz=>?_
 have all:∀e,e<t.mask+1->∃i:Nat,t.place[i]?=Z9 e:=λe he=>by
  rcases Qx T.rs e with⟨a,_⟩|⟨i,_,h⟩
  .exact absurd ⟨e,by omega,a⟩ z
  .exact⟨i,h⟩
 have sub:b9 (t.mask+1) ⊆ t.place.toList:=λe he=>by obtain⟨i,hi⟩:=all e (jk.mp he);exact c8.mpr ⟨i,by rw[gy];exact hi⟩
 have:=(List.nodup_range).length_le_of_subset sub;rw[ci,aw,T.sz]at this;omega
end
def fF (ow:List (Option Nat)):Nat:=ow.countP Option.isSome
structure Ow (m k:Nat)(ow:Array (Option Nat)):Prop where
 sz:ow.size=m+1
 lt:∀(j v:Nat),ow[j]?=Z9 (Z9 v)->v<k
 ct:fF ow.toList=k
theorem IS:∀(l:List (Option Nat)) (j v:Nat),l[j]?=Z9 Z8->fF (l.set j (Z9 v))=fF l+1
 |x::l,0,v,h=>by cases h;show fF (Z9 v::l)=_;unfold fF;rw[iz,iz];rfl
 |x::l,j+1,v,h=>by show fF (x::l.set j (Z9 v))=_;have:=IS l j v h;unfold fF at this ⊢;rw[iz,iz,this];omega
theorem Ow.put (O:Ow m k ow)(h:ow[j]?=Z9 Z8):Ow m (k+1) (ow.setIfInBounds j (Z9 k)) where
 sz:=by rw[oy];exact O.sz
 lt:=λi v e=>by
  rw[mw]at e;by_cases c:j=i
  .rw[vh c]at e;split at e
   .cases e;omega
   .cases e
  .rw[vm c]at e;have:=O.lt i v e;omega
 ct:=by rw[Array.toList_setIfInBounds,IS _ _ _ (by rw[gy];exact h),O.ct]
theorem Ow.room (O:Ow m k ow)(hk:k<=m):∃e,e<=m/\ow[e]?=Z9 none:=by
 refine Classical.byContradiction λz=>?_
 have:fF ow.toList=ow.toList.length:=List.countP_eq_length.mpr λx hx=>by
  obtain⟨i,hi⟩:=c8.mp hx;rw[gy]at hi;cases x with
  |some _=>rfl
  |none=>have:=(cx.mp hi).1;rw[O.sz]at this;exact absurd ⟨i,by omega,hi⟩ z
 rw[O.ct,aw,O.sz]at this;omega
theorem Al (ow:Array (Option Nat)):∀(n b:Nat),b+n=ow.size->((List.range' b n).filterMap λj=>(ow.getD j Z8).map (j,·)).length=fF (ow.toList.drop b)
 |0,b,e=>by rw[li (by rw[aw];omega)];rfl
 |n+1,b,e=>by
  have hb:b<ow.toList.length:=by rw[aw];omega
  rw[List.range'_succ,gb hb];have ih:=Al ow n (b+1) (by omega);have eg:ow.getD b Z8=ow.toList[b]:=by rw[eu,i8 (by omega)];simp
  unfold fF;rw[iz,dg,eg];cases ow.toList[b]with
  |none=>exact ih
  |some v=>show _+1=_+1;rw[ih];rfl
structure Ky (prog:bu)(w:World)(A:fq)(ok:Heap->Prop)(ad:Nat->Addr)(n:Nat):Prop where
 hash:∀i,i<n->∀(s:ak) (E:Value->ak->Prop) (Q:Int->ak->Prop),ok s.heap->(∀h tk,s.toks<=tk->Q h {s with toks:=tk})->wpAny (model prog w) A (pyHash (.ref (ad i))) Q E s
 eq:∀i j,i<n->j<n->i≠j->∀(s:ak) (E:Value->ak->Prop) (Q:Bool->ak->Prop),ok s.heap->Q Z6 s->wpAny (model prog w) A (eqBool (.ref (ad i)) (.ref (ad j))) Q E s
 qu:∀i,i<n->∀(s:ak) (E:Value->ak->Prop) (Q:Bool->ak->Prop),ok s.heap->Q Z7 s->wpAny (model prog w) A (eqIsQuiet 8 (.ref (ad i))) Q E s
 cl:∀i,i<n->∀(s:ak) (E:Value->ak->Prop) (Q:Bool->ak->Prop),ok s.heap->Q Z6 s->wpAny (model prog w) A (ofAClassStatement 8 (.ref (ad i))) Q E s
 bv:∀i,i<n->∀(s:ak) (E:Value->ak->Prop) (Q:Bool->ak->Prop),ok s.heap->(∀b,Q b s)->wpAny (model prog w) A (hashByValue 8 (.ref (ad i))) Q E s
structure mG (h:Heap)(S:Addr)(ad:Nat->Addr)(n:Nat)(es:Array (Int×Value))(ep:Nat)(t:bt)(o:Obj):Prop where
 at_:h.get? S=Z9 o
 ex:o.ExactSet
 dt:o.data=.set es ep t
 el:∀e∈es.toList,∃j,j<n/\e.2=.ref (ad j)
 sz:es.size=n
 tb:Tb t n
 lo:n*5<t.mask*3
section
variable {prog:bu}{w:World}{A:fq}{E:Value->ak->Prop}{s:ak}{ok:Heap->Prop}{ad:Nat->Addr}{N n:Nat}{S:Addr}{es:Array (Int×Value)}{ep:Nat}{t:bt}{o:Obj}
theorem mG.fit (x:mG h S ad n es ep t o):t.fits es.size=true:=by unfold SetTable.fits SetTable.fill;rw[x.tb.rs.2,x.tb.sz,x.sz];have:=x.lo;rw[a6,beq_iff_eq,decide_eq_true_iff];exact⟨rfl,by show n+0<=_;omega⟩
theorem seen (K:Ky prog w A ok ad N)(hk:ok s.heap)(hn:n<N)(q:Q Z6 s):∀(l:List Value),(∀y∈l,∃j,j<n/\y=.ref (ad j))->wpAny (model prog w) A (searchCouldBeSeen (.ref (ad n)) l) Q E s:=by
 intro l hl;apply aa;refine wpAny_forIn_list _ (λrest r s'=>r.1=Z8/\s'=s/\∀y∈rest,∃j,j<n/\y=.ref (ad j)) _ ?_ ?_ _ _ ⟨rfl,rfl,hl⟩
 .rintro y rest r s' ⟨hr,rfl,hy⟩
  obtain⟨j,hj,rfl⟩:=hy y a8;have go:=λz hz=>hy z (ba _ hz)
  dsimp only
  split
  .exact av ⟨rfl,rfl,go⟩
  .apply aa;refine K.qu n hn _ _ _ hk ?_;apply aa;refine K.qu j (by omega) _ _ _ hk ?_;apply aa;refine K.cl n hn _ _ _ hk ?_;apply aa;refine K.cl j (by omega) _ _ _ hk ?_;exact av ⟨rfl,rfl,go⟩
 .rintro⟨r1,r2⟩ s' ⟨hr,rfl,_⟩
  subst hr;exact av q
theorem mG.keep (x:mG h S ad n es ep t o)(k:∀o,h.get? S=Z9 o->h'.get? S=Z9 o):mG h' S ad n es ep t o:={x with at_:=k o x.at_}
end
def KV (n:Nat)(h:Heap)(v:Value):Prop:=∃d as,kd n d=Z7/\Reads h v d as
def LV (v:Value):Prop:=(∃i t,v=.int i t)\/∃x t,v=.str x t
theorem IT (k:Cm d=Z7)(r:Reads h v d as):LV v:=by
 cases r with
 |int i t=>exact .inl ⟨_,_,rfl⟩
 |str x t=>exact .inr ⟨_,_,rfl⟩
 |_=>cases k
theorem IU:∀{vs:List Value} {xs:List ag} {as:List Addr},xs.all (kd n)=Z7->nz h vs xs as->∀u∈vs,KV n h u
 |_,_,_,_,.nil,_,hu=>by cases hu
 |_,_,_,k,.cons r rs,u,hu=>by
  rw[fg,a6]at k;rcases ay.mp hu with rfl|hu
  .exact⟨_,_,k.1,r⟩
  .exact IU k.2 rs u hu
theorem KV.zero:KV 0 h v->LV v:=λ⟨_,_,k,r⟩=>IT k r
theorem KV.succ:KV (n+1) h v->LV v\/∃a o vs m,v=.ref a/\h.get? a=Z9 o/\o.cls=.type "tuple"/\o.data=.seq vs m/\∀u∈vs.toList,KV n h u:=λ⟨d,as,k,r⟩=>by
 cases d with
 |tuple xs=>
  cases r with
  |tuple h1 h2 h3 h4=>exact .inr ⟨_,_,_,_,rfl,h1,h2,h3,IU k h4⟩
 |_=>exact .inl (IT (by simpa only[kd]using k) r)
section
variable {X:Cx}{pins:List (Addr×Obj)}{σ:L2.St}{H:Hp}{s:ak}{B:Ad->Prop}
theorem CallR.or {R2:List V->Hp->VK->Prop}(h1:CallR X f R1)(h2:CallR X f R2):CallR X f (λxs H Q=>R1 xs H Q\/R2 xs H Q):=by
 intro pins s σ H xs us Q I r h;rcases h with h|h
 .exact h1 _ _ _ _ _ _ _ I r h
 .exact h2 _ _ _ _ _ _ _ I r h
end
abbrev vE:List Value:=[.type "ValueError",.type "Exception",.type "BaseException",.type "object"]
abbrev x4 (K:Z5)(C:Addr):Bool:=W.excIn K C vE "ValueError.__new__"
def kK (K:Z5)(C:Addr):Bool:=match K.lookup C with
 |some ⟨.type "type",_,.cls cd,sl⟩=>(match cd.mro,sl.toList with
  |.ref D::bm,[_,_,_,_,Z9 (.builtin n),_]=>(D==C)&&(n=="ValueError.__new__")&& !cd.hasDel&&W.tailIn K vE bm&&W.nsOkIn K cd.ns
  |_,_=>Z6)
 |_=>Z6
def XC (C:Addr)(h:Heap)(bm:List Value):Prop:=∃N nm q bs hdct sn sub ab col dd k0 k1 k2 k3 k5 mN,h.get? C=Z9 (excClassObj nm q C N bs bm hdct sn sub ab col dd k0 k1 k2 k3 k5 "ValueError.__new__")/\h.Ns N mN/\OwnTail h vE bm
def D6 (C:Addr)(h:Heap)(bm:List Value):Prop:=∃N nm q bs hdct sn sub ab col dd k0 k1 k2 k3 k5 mN,h.get? C=Z9 (excClassObj nm q C N bs bm hdct sn sub ab col dd k0 k1 k2 k3 k5 "ValueError.__new__")/\h.Ns N mN/\mN "__init__"=Z8/\OwnTail h vE bm
theorem x5:(a&&b)=Z7->a=Z7/\b=true:=bj.mp
theorem Am {K:Z5}{C:Addr}(q:x4 K C=Z7):kK K C=Z7/\∀a cd sl,K.lookup C=Z9 ⟨.type "type",a,.cls cd,sl⟩->W.nsIn K cd.ns "__init__"=Z9 none:=by
 unfold x4 W.excIn at q;unfold kK;split at q
 .rename_i a cd sl b;split at q
  .rename_i A bm h i j k n l hm hs;obtain⟨q,c⟩:=x5 q;refine⟨?_,λd f g e=>by rw[b]at e;cases e;exact vt c⟩;simp only[b,hm,hs];exact q
  .cases q
 .cases q
theorem D7 {K:Z5}{C:Addr}(q:kK K C=Z7):∃a cd bm h i j k l,K.lookup C=Z9 ⟨.type "type",a,.cls cd,#[h,i,j,k,Z9 (.builtin "ValueError.__new__"),l]⟩/\cd.mro=.ref C::bm/\cd.hasDel=Z6/\W.tailIn K vE bm=Z7/\W.nsOkIn K cd.ns=true:=by
 unfold kK at q;split at q
 .rename_i a cd sl m;split at q
  .rename_i A bm b c d e n f hm hs;obtain⟨q,o⟩:=x5 q;obtain⟨q,p⟩:=x5 q;obtain⟨q,g⟩:=x5 q;obtain⟨r,s⟩:=x5 q;have t:sl=#[b,c,d,e,Z9 (.builtin n),f]:=pp.mp (by rw[hs]);refine⟨a,cd,bm,b,c,d,e,f,?_,?_,?_,p,o⟩
   .rw[m,t,vt s]
   .rw[hm,vt r]
   .cases hd:cd.hasDel with
    |false=>rfl
    |true=>rw[hd]at g;cases g
  .cases q
 .cases q
theorem IV {K:Z5}{C:Addr}(a:K.lookup C=Z9 ⟨.type "type",c,.cls cd,sl⟩)(hm:cd.mro=.ref C::bm)(e:Z4 K (.ref C) v=Z9 b):(ZU C::bm).contains v=b:=by
 have e:W.mroIn K C v=Z9 b:=e;unfold W.mroIn W.clsIn at e;rw[a]at e
 dsimp at e
 rw[hm]at e;exact vn e
theorem XC.mk {K:Z5}{C:Addr}(X:K.In h)(q:kK K C=Z7):∃bm,XC C h bm/\∀v b,Z4 K (.ref C) v=Z9 b->(ZU C::bm).contains v=b:=by
 obtain⟨d,cd,bm,f,g,i,j,k,a,hm,hd,l,m⟩:=D7 q;refine⟨bm,⟨cd.ns,cd.name,cd.qualname,cd.bases,cd.hasDict,cd.slotNames,cd.subclasses,cd.abstract,cd.collection,d,f,g,i,j,k,h.nsMap cd.ns,?_,.of_isNs (W.isNs_of_in X m),W.tail_of_in X l⟩,λv b e=>IV a hm e⟩;have c:=X _ _ a;cases cd
 dsimp only at hm hd
 rw[hm,hd]at c;exact c
theorem D6.mk {K:Z5}{C:Addr}(X:K.In h)(q:x4 K C=Z7):∃bm,D6 C h bm:=by
 obtain⟨d,e⟩:=Am q;obtain⟨f,cd,bm,g,i,j,k,l,a,hm,hd,m,b⟩:=D7 d;refine⟨bm,cd.ns,cd.name,cd.qualname,cd.bases,cd.hasDict,cd.slotNames,cd.subclasses,cd.abstract,cd.collection,f,g,i,j,k,l,h.nsMap cd.ns,?_,.of_isNs (W.isNs_of_in X b),W.nsMap_none_of_in X b (e _ _ _ a),W.tail_of_in X m⟩;have c:=X _ _ a;cases cd
 dsimp only at hm hd
 rw[hm,hd]at c;exact c
section
variable {M:Model}{A:fq}{E:Value->ak->Prop}{h:Heap}{g:Array GenState}{d:Drawn}{t:Nat}{os:ou}{C B e:Addr}{bm IW:List Value}{oe:Obj}{Q:Bool->ak->Prop}
theorem Qz (T:OwnTail h vE l):l.contains (.type "BaseException")=true:=T.hasType rfl
theorem QA (i:XC C h bm)(j:XC B h IW)(k:h.get? e=Z9 oe)(l:oe.cls=.ref C)(a:(ZU C::bm).contains (.ref B)=Z7)(m:Q Z7 ⟨h,g,d,t,os⟩):wpAny M A (excMatches (.ref e) (.ref B)) Q E ⟨h,g,d,t,os⟩:=by
 obtain⟨_,_,_,_,_,_,_,_,_,_,_,_,_,_,_,_,n,_,_⟩:=i;obtain⟨_,_,_,_,_,_,_,_,_,_,_,_,_,_,_,_,c,_,tB⟩:=j;have b:(ZU B::IW).contains (.type "BaseException")=true:=by rw[tu,Qz tB,ln]
 have f:=tc_notTuple
 repeat (first|(with_reducible refine j5 k ?_;rw[l])|with_reducible refine j5 c ?_|(with_reducible refine sf c ?_;rw[b])|(with_reducible refine sf n ?_;rw[a])|wp_step)
 exact m
end
section
variable {prog:bu}{w:World}{A:fq}{E:Value->ak->Prop}{K:Z5}{h:Heap}{g:Array GenState}{d:Drawn}{t:Nat}{os:ou}{C e:Addr}{oe:Obj}
structure XA (K:Z5)(C:Addr):Prop where
 cl:W.findIn K (.ref C) "__class__"=Z9 (Z9 (.builtin "object.__class__"))
 ga:W.findIn K (.ref C) "__getattribute__"=Z9 (Z9 (.builtin "BaseException.__getattribute__"))
 gt:W.findIn K (.ref C) "__getattr__"=Z9 Z8
 ob:Z4 K (.ref C) (.type "object")=Z9 Z7
 be:Z4 K (.ref C) (.type "BaseException")=Z9 Z7
 ty:W.typeIn K (.ref C)=Z9 (.type "type")
 is:(W.clsIn K C).isSome=Z7
 ex:kK K C=Z7
theorem z6m (a:h.get? e=Z9 oe)(hc:oe.cls=.ref C):W.Looks M h (uq (.ref e)) (.ref C):=by intro A Q E s k q;refine aa (wpAny_loadPart (k _ _ a) ?_);rw[hc];exact av q
theorem zuh (X:K.In h)(a:XA K C)(b:h.get? e=Z9 oe)(hc:oe.cls=.ref C)(c:R (.ok (.ret (.ref C))) ⟨h,g,d,t,os⟩):
  l8 (model prog w) A (.call (.builtin "getset_descriptor.__get__") ⟨[.builtin "object.__class__",.ref e,tp],[]⟩) R ⟨h,g,d,t,os⟩:=by
 have f:=z6m (M:=model prog w) b hc;have i:=W.looks_subIn (M:=model prog w) X a.ob;refine q8 W.KF.slot_gs.plain W.KF.entry_gs (W.KF.slot_gs.check _ _ _ _ _ _ _ _ W.KF.type_class (W.KF.args_gs _ _ _) (aa (av ?_)));unfold Builtin.Getset_descriptor.descrGetter Builtin.Getset_descriptor.descrCheckInstance Builtin.Getset_descriptor.descrNameAndClass vc;simp only[W.KF.owner_class]
 repeat lk
 refine⟨Code.quiet_builtin _ (by decide+kernel),?_⟩;refine ku W.KF.entry_class ?_;unfold Builtin.«object.__class__»;unfold shownTypeOf;repeat lk
 exact c
theorem zlj (X:K.In h)(a:XA K C)(b:h.get? e=Z9 oe)(c:oe.cls=.ref C)(i:Q (.done (.ret (.ref C))) ⟨h,g,d,t,os⟩):
  wpAny (model prog w) A (Builtin.«object.__getattribute__» ⟨[.ref e,.str "__class__" j],[]⟩) Q E ⟨h,g,d,t,os⟩:=by
 have⟨f5,f6,f7⟩:=And.intro F.typeOf_object_class (And.intro F.slot_gs_get.lookup F.slot_gs_set.lookup);have f:=W.looks_findIn (M:=model prog w) X a.cl
 repeat (any_goals (first|assumption|(with_reducible refine j5 b ?_;rw[c])|with_reducible refine f.at ?_|wp_step))
 refine zuh X a b c ?_
 repeat' first|assumption|wp_step
theorem x_call {b:Tok}{R:Result->ak->Prop}(X:K.In h)(a:XA K C)(c:h.get? e=Z9 oe)(f:oe.cls=.ref C)(i:R (.ok (.ret (.ref C))) ⟨h,g,d,t,os⟩):
  l8 (model prog w) A (.call (.builtin "BaseException.__getattribute__") ⟨[.ref e,.str "__class__" b],[]⟩) R ⟨h,g,d,t,os⟩:=by
 refine q8 F.excAttr_ValueError.ga.plain F.entry_bexc_ga ?_;have l1:=W.looks_subIn (M:=model prog w) X a.be;have l:=F.args_bexc_ga (.ref e) (.str "__class__" b);have j:builtinKind "BaseException.__getattribute__"=Z9 .slot:=by decide+kernel
 have k:splitId "BaseException.__getattribute__"=Z9 ("BaseException","__getattribute__"):=by decide+kernel
 simp only[checkBuiltinCall,j,k];refine aa ?_;unfold vc
 repeat (first|(with_reducible refine zlj X a c f ?_;exact i)|(with_reducible refine j5 c ?_;rw[f])|with_reducible refine l1.at ?_|wp_step)
theorem x_by (X:K.In h)(a:XA K C)(b:h.get? e=Z9 oe)(hc:oe.cls=.ref C)(c:Q (.ref C) ⟨h,g,d,t,os⟩):
  wpAny (model prog w) A (getAttrBy (.ref e) (.str "__class__" f) Z6) Q E ⟨h,g,d,t,os⟩:=by
 have i:=F.excAttr_ValueError.ga.bind (.ref e)
 repeat (any_goals (first|assumption|(with_reducible refine j5 b ?_;rw[hc])|with_reducible refine(W.looks_findIn (M:=model prog w) X a.ga).at ?_|with_reducible refine(W.looks_findIn (M:=model prog w) X a.gt).at ?_|wp_step))
 refine x_call X a b hc ?_
 repeat' first|assumption|wp_step
theorem QB (X:K.In h)(a:XA K C)(b:h.get? e=Z9 oe)(hc:oe.cls=.ref C)(c:Q (Z9 (.ref C)) ⟨h,g,d,t+1,os⟩):wpAny (model prog w) A (uh (.ref e) "__class__") Q E ⟨h,g,d,t,os⟩:=by repeat (any_goals (first|assumption|with_reducible apply x_by X a b hc|wp_step))
theorem QC (q:kK K C=Z7)(e:Z4 K (.ref C) (.ref C)=Z9 b):b=true:=by obtain⟨c,cd,bm,d,f,g,h,i,a,hm,_⟩:=D7 q;rw[<-IV a hm e,tu,beq_self_eq_true,ke]
structure XV (K:Z5)(v:Value):Prop where
 ty:∀(M:Model) (h:Heap),K.In h->W.Looks M h (uq v) (.type "type")
 is:∀(M:Model) (h:Heap),K.In h->W.Looks M h (isType v) Z7
theorem IX {D:Addr}(X:K.In h)(q:(W.clsIn K D).isSome=Z7):W.Looks M h (isType (.ref D)) true:=by
 unfold W.clsIn at q;split at q
 .rename_i a;intro A Q E s k z;refine aa (u3 (k _ _ (X _ _ a)) ?_);exact av z
 .cases q
theorem XV.own {D:Addr}(t:W.typeIn K (.ref D)=Z9 (.type "type"))(q:(W.clsIn K D).isSome=Z7):XV K (.ref D):=⟨λM h X=>W.looks_typeIn X t,λM h X=>IX X q⟩
theorem XV.val:XV K (.type "ValueError"):=⟨λM h X=>W.Looks.of_pure (by kernel_rfl),λM h X=>W.Looks.of_pure rfl⟩
theorem zrv (X:K.In h)(a:XA K C)(c:h.get? e=Z9 oe)(hc:oe.cls=.ref C)(f:XV K v)(hs:Z4 K (.ref C) v=Z9 b)(i:Q (.done (.ret (.bool b))) ⟨h,g,d,t,os⟩)(l:Q (.done (.ret (.bool b))) ⟨h,g,d,t+1,os⟩):
  wpAny (model prog w) A (Builtin.«isinstance.nested» ⟨[.ref e,v,.int m o],[]⟩) Q E ⟨h,g,d,t,os⟩:=by
 have j:=z6m (M:=model prog w) c hc;have k:=W.looks_subIn (M:=model prog w) X hs;unfold Builtin.«isinstance.nested»;refine aa (j.at ?_);by_cases q:(ZU C==v)=true
 .rw[vh q];have n:b=true:=by cases vt q;exact QC a.ex hs
  subst n;exact aa (ip (aa (av (av i))))
 .rw[vm q];refine aa ((f.ty (model prog w) h X).at ?_)
  k_delta "plainIsInstance"
  refine aa (aa ((f.is (model prog w) h X).at ?_));refine aa ((j.andThen k).at ?_);cases b with
  |true=>exact av (av i)
  |false=>refine aa (QB X a c hc ?_);refine aa ((IX (M:=model prog w) X a.is).at ?_);refine aa (ip ?_);exact k.at (av l)
theorem zty (X:K.In s.heap)(a:XA K C)(i:s.heap.get? e=Z9 oe)(hc:oe.cls=.ref C)(j:XV K v)(hs:Z4 K (.ref C) v=Z9 b)(k:∀f,Q (.bool b) {s with toks:=f}):
  wpAny (model prog w) A (call (.builtin "isinstance") [.ref e,v]) Q E s:=
 call_isinstance (S:=λ_ R s=>(K.In s.heap/\s.heap.get? e=Z9 oe)/\∀f,R (.ok (.ret (.bool b))) {s with toks:=f}) (λ_ _ _ _ s c=>isinstance_outer (by obtain⟨h,g,d,t,os⟩:=s;exact zrv c.1.1 a c.1.2 hc j hs (c.2 t) (c.2 (t+1))) nofun) ⟨⟨X,i⟩,k⟩
end
theorem QD (f:Array Value->Array Value)(o:Obj):(Obj.mapFields f o).dict=o.dict:=by unfold Obj.mapFields;split<;>rfl
def TrD (h base:Heap)(e:Addr)(cls:Value)(dd:Option Addr)(fl:Value):Prop:=∃ob vs T tr ts,h.get? e=Z9 ob/\ob.cls=cls/\ob.dict=dd/\ob.data=.fields vs/\vs[1]?=Z9 (.ref T)/\base.get? T=Z8/\T≠e/\h.get? T=Z9 tr/\tr.data=.fields ts/\ts[3]?=Z9 fl
def FlD (base:Heap)(l:List Env)(e:Addr)(cls:Value)(dd:Option Addr)(h:Heap):Prop:=base.StaysIn h/\base.get? e=Z8/\h.FunFrames base l/\TrD h base e cls dd .none
def IY (base:Heap)(l:List Env)(e:Addr)(cls:Value)(dd:Option Addr)(L:Addr)(h:Heap):Prop:=base.StaysIn h/\base.get? e=Z8/\h.FunFrames base l/\TrD h base e cls dd (qm L)
theorem FlD.first (x:FlD base l e cls b h):∃ob a,h.get? e=Z9 ob/\ob.cls=cls/\ob.dict=b/\ob.data=.fields a:=by obtain⟨_,_,_,ob,a,_,_,_,c,d,f,g,_⟩:=x;exact⟨ob,a,c,d,f,g⟩
section
variable {M:Model}{A:fq}{E:Value->ak->Prop}{s:ak}{base:Heap}{env:Env}{outer l:List Env}{L e:Addr}{Q:Unit->ak->Prop}{cls:Value}{dd:Option Addr}
theorem z8n (fr:A.frames=Z9 (env::outer))(ff:s.heap.FunFrames base (env::outer))(el:env.frame=Z9 L)(p:s.heap.get? e=Z9 ob)(st:base.StaysIn s.heap)(be:base.get? e=Z8)(da:ob.data=.fields f)(sz:1<f.size)
  (go:∀h,base.StaysIn h->h.FunFrames base (env::outer)->TrD h base e ob.cls ob.dict (qm L)->s.heap.UpToSlots h->Q () {s with heap:=h}):
  wpAny M A (do
   let a <-frameOf env
   let pl <-entryPlaceOf L hn
   let b <-EntryCells.newEntry head a .none (qm L) .none pl
   setField (.ref e) 1 b) Q E s:=by
 have r:e∉(env::outer).filterMap (·.frame):=λz=>by obtain⟨_,o,q,n⟩:=ff.mem z;rw[p]at q;cases q;exact n f da
 refine aa (wpAny_frameOf_fun fr ff el λd m=>aa (wpAny_entryPlaceOf λpl t=>?_));refine aa (jc ?_ (t.sizeOk5 _ _ _ _ _));have i:d.get? e=Z9 ob:=m.2.1 e r▸p;have j:base.StaysIn d:=λb o q=>by rw[m.2.1 b λz=>by rw[(ff.mem z).1]at q;cases q];exact st b o q
 generalize u:({cls:=.type "traceback",dict:=Z8,data:=.fields ([head,.ref L,.none,qm L,.none]++(if pl.isEmpty then b8 6 Value.none else pl)).toArray}:Obj)=k;have l:=af k i;have w:d.objs.size≠e:=λz=>absurd (bg i) (z▸cj _);refine q9 l da sz (go _ ?_ ?_ ?_ ?_)
 all_goals generalize y:(λv:Array Value=>v.setIfInBounds 1 (ZU d.objs.size))=g
 all_goals
  have x:=Obj.data_mapFields da g;have B:((d.push k).update e (Obj.mapFields g)).get? d.objs.size=Z9 k:=by rw[gn _ _ (Ne.symm w)];exact b6 d (by rw[<-u];rfl)
  have keep:∀b o,b≠e->d.get? b=Z9 o->((d.push k).update e (Obj.mapFields g)).get? b=Z9 o:=λb o n q=>by rw[gn _ _ (Ne.symm n)];exact af _ q
  have c:∀b o,s.heap.get? b=Z9 o->(∀f,o.data≠.fields f)->b≠e:=λb o q n z=>by rw[z,p]at q;cases q;exact n f da
 .exact λb o q=>keep b o (λz=>by rw[z,be]at q;cases q) (j b o q)
 .refine ff.of_keeps λb o q n=>?_;obtain⟨sl,z⟩:=m.2.2 b o q;exact⟨_,keep b _ (c b o q n) z,rfl⟩
 .refine⟨_,_,d.objs.size,k,_,j3 (Obj.mapFields g) l (Obj.isFreed_of_fields x),Obj.cls_mapFields _ _,QD _ _,x,?_,j.fresh,w,B,by rw[<-u],?_⟩
  .rw[<-y];simp[sz]
  .first|(simp;done)|(rcases t with rfl|⟨_,_,_,_,_,_,_,rfl⟩<;>simp)
 .exact λb o q n=>by obtain⟨sl,z⟩:=m.2.2 b o q;exact⟨sl,keep b _ (c b o q n) z⟩
theorem zf7 (fr:A.frames=Z9 (env::outer))(ff:s.heap.FunFrames base (env::outer))(el:env.frame=Z9 L)(b:s.heap.get? e=Z9 ob)(st:base.StaysIn s.heap)(be:base.get? e=Z8)(da:ob.data=.fields d)(c:d[1]?=Z9 .none)
  (go:∀a,base.StaysIn a->a.FunFrames base (env::outer)->TrD a base e ob.cls ob.dict (qm L)->s.heap.UpToSlots a->Q () {s with heap:=a}):wpAny M A (nk (.ref e) env) Q E s:=by
 unfold nk;simp only[el];refine aa (k8 b da c ?_);exact z8n fr ff el b st be da (cx.mp c).1 go
theorem zk0 (fr:A.frames=Z9 (env::outer))(ff:s.heap.FunFrames base (env::outer))(el:env.frame=Z9 L)(l:TrD s.heap base e cls dd .none)(st:base.StaysIn s.heap)(be:base.get? e=Z8)
  (go:∀d,base.StaysIn d->d.FunFrames base (env::outer)->TrD d base e cls dd (qm L)->s.heap.UpToSlots d->Q () {s with heap:=d}):wpAny M A (nk (.ref e) env) Q E s:=by
 obtain⟨ob,h,T,y,m,i,rfl,rfl,da,j,p,r,f,dT,k⟩:=l;unfold nk;simp only[el];refine aa (k8 i da j ?_);refine aa (k8 f dT k ?_);refine aa (q9 f dT (cx.mp k).1 ?_);generalize B:(λv:Array Value=>v.setIfInBounds 3 Value.none)=g;have c:∀b,b≠T->(s.heap.update T (Obj.mapFields g)).get? b=s.heap.get? b:=λb n=>gn _ _ (Ne.symm n);have a:∀b o,s.heap.get? b=Z9 o->(∀h,o.data≠.fields h)->b≠T:=λb o q n z=>by rw[z,f]at q;cases q;exact n m dT
 refine z8n fr (ff.of_keeps λb o q n=>⟨o,by rw[<-q];exact c b (a b o q n),rfl⟩) el ((c e (Ne.symm r)).trans i) (λb o q=>(c b λz=>by rw[z,p]at q;cases q).trans (st b o q)) be da (cx.mp j).1 λd t u w x=>go d t u w λb o q n=>x b o ((c b (a b o q n)).trans q) n
theorem zbb (st:base.StaysIn s.heap)(ff:s.heap.FunFrames base l)(r:TrD s.heap base e cls dd fl)
  (go:∀d,base.StaysIn d->d.FunFrames base l->TrD d base e cls dd .none->s.heap.UpToSlots d->Q () {s with heap:=d}):wpAny M A (rm (.ref e) Z8) Q E s:=by
 obtain⟨ob,h,T,x,t,j,hc,hd,da,k,m,p,i,dT,u⟩:=r;have sz:=(cx.mp u).1;refine aa (k8 j da k ?_);refine q9 i dT sz ?_;generalize w:(λv:Array Value=>v.setIfInBounds 3 ((Z8:Option Addr).elim Value.none λf=>qm f))=g;have c:∀b,b≠T->(s.heap.update T (Obj.mapFields g)).get? b=s.heap.get? b:=λb n=>gn _ _ (Ne.symm n);have a:∀b o,s.heap.get? b=Z9 o->(∀h,o.data≠.fields h)->b≠T:=λb o q n z=>by rw[z,i]at q;cases q;exact n t dT
 refine go _ (λb o q=>(c b λz=>by rw[z,m]at q;cases q).trans (st b o q)) (ff.of_keeps λb o q n=>⟨o,(c b (a b o q n)).trans q,rfl⟩) ⟨ob,h,T,_,_,(c e (Ne.symm p)).trans j,hc,hd,da,k,m,p,j3 _ i (Obj.isFreed_of_fields (Obj.data_mapFields dT _)),Obj.data_mapFields dT _,by rw[<-w];simp[sz]⟩ λb o q n=>⟨o.slots,(c b (a b o q n)).trans q⟩
theorem z9q (fr:A.frames=Z9 (env::outer))(el:env.frame=Z9 L)(fl:FlD base (env::outer) e cls dd s.heap)
  (go:∀a,IY base (env::outer) e cls dd L a->s.heap.UpToSlots a->Q () {s with heap:=a}):wpAny M A (nk (.ref e) env) Q E s:=by
 obtain⟨c,b,d,f⟩:=fl;exact zk0 fr d el f c b λa g h i j=>go a ⟨g,b,h,i⟩ j
theorem IZ (x:IY base l e cls dd L s.heap)(go:∀a,FlD base l e cls dd a->s.heap.UpToSlots a->Q () {s with heap:=a}):wpAny M A (rm (.ref e) Z8) Q E s:=by obtain⟨b,c,d,f⟩:=x;exact zbb b d f λa g h i j=>go a ⟨g,c,h,i⟩ j
theorem QE (x:FlD base l e cls dd s.heap)(go:∀a,FlD base l e cls dd a->s.heap.UpToSlots a->Q () {s with heap:=a}):wpAny M A (rm (.ref e) Z8) Q E s:=by obtain⟨b,c,d,f⟩:=x;exact zbb b d f λa g h i j=>go a ⟨g,c,h,i⟩ j
theorem zet (fr:A.frames=Z9 (env::outer))(el:env.frame=Z9 L)(fl:FlD base (env::outer) e cls dd s.heap)
  (go:∀a,FlD base outer e cls dd a->s.heap.UpToSlots a->Q () {s with heap:=a}):wpAny M A (t6 env (.ref e)) Q E s:=by
 refine aa (z9q fr el fl λl b c=>IZ b λd f g=>?_);obtain⟨h,i,⟨_,_,j⟩,k⟩:=f;exact go d ⟨h,i,j,k⟩ (c.trans g)
theorem zbg (fr:A.frames=Z9 (env::outer))(ff:s.heap.FunFrames base (env::outer))(el:env.frame=Z9 L)(b:s.heap.get? e=Z9 ob)(st:base.StaysIn s.heap)(be:base.get? e=Z8)(da:ob.data=.fields c)(d:c[1]?=Z9 .none)
  (go:∀a,FlD base outer e ob.cls ob.dict a->s.heap.UpToSlots a->Q () {s with heap:=a}):wpAny M A (t6 env (.ref e)) Q E s:=by
 refine aa (zf7 fr ff el b st be da d λp f g h i=>zbb f g h λj k l m n=>?_);obtain⟨_,_,o⟩:=l;exact go j ⟨k,be,o,m⟩ (i.trans n)
end
structure Fly (P:bu)(w:World)(base:Heap)(outer:List Env)(H:Hp)(s:ak)(C a:Addr)(H':Hp)(s':ak)(dd:Option Addr):Prop where
 os:s'.os=s.os
 bare:m5 s'.gens
 bV:∀b xs,H b=Z9 (.tup xs)->H' b=Z9 (.tup xs)
 bR:∀b o u,H b=Z9 (.eP o u)->H' b=Z9 (.eP o u)
 bW:∀b ps,H b=Z9 (.lF ps)->∃more,H' b=Z9 (.lF (ps++more))
 free:∀b o,s.heap.get? b=Z9 o->H b=Z8->H' b=Z8
 hh:∃B,base.StaysIn B/\HOk P w H' B/\(∀b o,s.heap.get? b=Z9 o->b∉frs outer->∃o',B.get? b=Z9 o'/\(H b=Z8->o'=o))/\FlD B outer a (.ref C) dd s'.heap
 slot:∀b o,s.heap.get? b=Z9 o->H b=Z8->b∈frs outer->∃sl,s'.heap.get? b=Z9 {o with slots:=sl}
def An (P:bu)(w:World)(base:Heap):CXT:=λouter H s E e s'=>∃a C dd H',e=.ref a/\Fly P w base outer H s C a H' s' dd/\E (.ref C) dd H'
theorem I0 (x:z14 P w H h a o):∃ob,h.get? a=Z9 ob:=by
 cases o with
 |lst xs=>obtain⟨_,_,_,_,e⟩:=x;exact⟨_,e⟩
 |tup xs=>obtain⟨_,_,_,_,e⟩:=x;exact⟨_,e⟩
 |dK kvs=>obtain⟨_,_,_,_,o,_,_,e,_⟩:=x;exact⟨_,e⟩
 |own y=>exact x
 |eP ob u=>exact⟨_,x.1⟩
 |lF ps=>exact⟨_,x⟩
 |ext φ=>exact x.2.1
section
variable {P:bu}{w:World}{base:Heap}{outer:List Env}{H H':Hp}{s s':ak}{C a:Addr}{dd:Option Addr}
theorem Fly.hok (f:Fly P w base outer H s C a H' s' dd):HOk P w H' s'.heap:=by obtain⟨B,_,b,_,fl⟩:=f.hh;exact b.kept fl.1
theorem Fly.un (f:Fly P w base outer H s C a H' s' dd):Un (frs outer) [] H H' s.heap s'.heap:=by
 obtain⟨B,_,l,d,fl⟩:=f.hh;refine⟨λb o e n c _=>?_,λb o e n c _=>f.slot b o e n c,λb o e n _=>f.free b o e n,λb o e _=>?_,f.bV,f.bR,f.bW⟩
 .obtain⟨h,g,i⟩:=d b o e c;rw[i n]at g;exact fl.1 b o g
 .by_cases c:b∈frs outer
  .obtain⟨_,j,k,_⟩:=fl.2.2.1.mem c;exact⟨j,k⟩
  .obtain⟨h,g,_⟩:=d b o e c;exact⟨h,fl.1 b h g⟩
end
section
variable {X:Cx}{pins:List (Addr×Obj)}{σ:L2.St}{H H':Hp}{s s':ak}{C a:Addr}{dd:Option Addr}
theorem Fly.inv (f:Fly X.prog X.w X.base X.stack H s C a H' s' dd)(I:Inv X pins σ H s):Inv X pins σ H' s':=by obtain⟨c,g,d,t,o⟩:=s';obtain rfl:o=s.os:=f.os;exact I.call f.un f.hok f.bare λb z=>nomatch z
theorem Fly.leave {M:Model}{outer:List Env}{Q:Unit->ak->Prop}{E:Value->ak->Prop}(f:Fly X.prog X.w X.base X.stack H s C a H' s' dd)(I:Inv X pins σ H s)(hs:X.stack=X.env::X.outer)(hf:X.env.frame=Z9 X.env.locals)(hx:X.ex=[])
  (hQ:∀nE,Fly X.prog X.w X.base X.outer X.fL X.s₀ C a H' nE dd->Q () nE):wpAny M X.A (t6 X.env (.ref a)) Q E s':=by
 obtain⟨B,hb,hB,D8,fl⟩:=f.hh;rw[hs]at fl;have Ao:X.A.frames=Z9 (X.env::X.outer):=by rw[<-hs];exact I.ok.frames
 have u0:=I.base
 have D9:∀b o,X.s₀.heap.get? b=Z9 o->b∉frs X.outer->b∉frs X.stack:=λb o e hn z=>by
  rw[hs]at z;unfold frs at z hn;rw[dg,hf]at z;rcases ay.mp z with z|z
  .exact absurd (bg e) (by rw[z];exact Nat.not_lt.mpr I.ok.above)
  .exact hn z
 have slot:∀h',s'.heap.UpToSlots h'->∀b o,X.s₀.heap.get? b=Z9 o->X.fL b=Z8->b∈frs X.outer->∃sl,h'.get? b=Z9 {o with slots:=sl}:=λh' up b o e n hn=>by
  have nx:b∉X.ex:=by rw[hx];simp
  obtain⟨sl,e1⟩:=I.base.slot b o e n hn nx;have hst:b∈frs X.stack:=by rw[hs];unfold frs;rw[dg,hf];exact ba _ hn
  obtain⟨Ja,e2⟩:=f.slot b _ e1 (I.base.free b o e n nx) hst;obtain⟨_,o3,e3,nd⟩:=I.ok.cN.mem hn;rw[e]at e3;cases e3;obtain⟨x6,e4⟩:=up b _ e2 nd;exact⟨x6,e4⟩
 refine zet Ao hf fl λh' QF up=>hQ _ ⟨f.os.trans I.os,f.bare,λb xs e=>f.bV b xs (u0.bV b xs e),λb o u e=>f.bR b o u (u0.bR b o u e),λb ps e=>?_,λb o e n=>?_,⟨B,hb,hB,λb o e hn=>?_,QF⟩,slot h' up⟩
 .obtain⟨m1,e1⟩:=u0.bW b ps e;obtain⟨m2,e2⟩:=f.bW b _ e1;exact⟨m1++m2,by rw[e2,nv]⟩
 .have nx:b∉X.ex:=by rw[hx];simp
  obtain⟨o',e'⟩:=I.base.there b o e nx;exact f.free b o' e' (I.base.free b o e n nx)
 .have nx:b∉X.ex:=by rw[hx];simp
  obtain⟨o1,e1⟩:=I.base.there b o e nx;obtain⟨o2,e2,e3⟩:=D8 b o1 e1 (D9 b o e hn);refine⟨o2,e2,λn=>?_⟩;rw[e3 (I.base.free b o e n nx)];have:=I.base.keep b o e n hn nx;rw[this]at e1;cases e1;rfl
theorem QG (x:HOk P w H h)(n:∀b∈l,H b=Z8):HOk P w H (W.hideAll h l):=λb o e=>by
 refine(x b o e).stay (λc u a q=>W.hideAll_get _ q λz=>?_) (λ_ q=>q) λ_ _ q=>q;rcases a with rfl|a
 .rw[n c z]at e;cases e
 .rw[n c z]at a;cases a
theorem zdl (I:Inv X pins σ H s)(h0:X.s₀.heap.get? a=Z8)(l:H a=Z8)(m:s.heap.get? a=Z9 ob)(hc:ob.cls=.ref C)(da:ob.data=.fields p)(r:p[1]?=Z9 .none)(hs:X.stack=X.env::X.outer)(hf:X.env.frame=Z9 X.env.locals)(t:X.ex=[])
  (u:∀f,Fly X.prog X.w X.base X.outer X.fL X.s₀ C a H f ob.dict->Q () f):wpAny M X.A (t6 X.env (.ref a)) Q E s:=by
 have nx:∀b,b∉X.ex:=λb=>by rw[t];simp
 have g:=I.stack;rw[hs]at g
 have d:∀b∈a::frs (X.env::X.outer),H b=none:=λb h=>by
  rcases ay.mp h with rfl|h
  .exact l
  .exact I.fN b (hs▸h)
 have c:∀b o,X.s₀.heap.get? b=Z9 o->b∉frs X.outer->b∉a::frs (X.env::X.outer):=λb o e hn z=>by
  rcases ay.mp z with rfl|z
  .rw[h0]at e;cases e
  unfold frs at z hn;rw[dg,hf]at z;rcases ay.mp z with z|z
  .exact absurd (bg e) (z▸Nat.not_lt.mpr I.ok.above)
  .exact hn z
 refine zbg (base:=W.hideAll s.heap (a::frs (X.env::X.outer))) (hs▸I.ok.frames) (W.funFrames_hide g (λenv v b h=>ba _ (jt.mpr ⟨env,v,h⟩))) hf m (λb o q=>W.of_hideAll _ q) (W.hideAll_none _ a8) da r λB fl up=>u _ ⟨I.os,I.bare,I.base.bV,I.base.bR,I.base.bW,λb o e n=>I.base.free b o e n (nx b),⟨_,λb o e=>W.hideAll_get _ (I.bk b o e) (c b o (I.ok.bs b o e).1 (I.ok.wc e)),QG I.hok d,λb o e hn=>?_,by rw[hc]at fl;exact fl⟩,λb o e n hn=>?_⟩
 .obtain⟨x,i⟩:=I.base.there b o e (nx b);refine⟨x,W.hideAll_get _ i (c b o e hn),λn=>?_⟩;rw[I.base.keep b o e n hn (nx b)]at i;cases i;rfl
 obtain⟨sl,i⟩:=I.base.slot b o e n hn (nx b);obtain⟨_,D,k,nd⟩:=I.ok.cN.mem hn;rw[e]at k;cases k;obtain⟨j,y⟩:=up b _ i nd;exact⟨j,y⟩
theorem zay (I:Inv X pins σ H s)(hm:Heap.MadeExcOf s.heap h1 a (.ref C) args)(hs:X.stack=X.env::X.outer)(hf:X.env.frame=Z9 X.env.locals)(hx:X.ex=[])
  (hQ:∀nE,Fly X.prog X.w X.base X.outer X.fL X.s₀ C a H nE Z8->Q () nE):wpAny M X.A (t6 X.env (.ref a)) Q E {s with heap:=h1}:=by
 obtain⟨t,he,_,_⟩:=hm.there
 have h0:X.s₀.heap.get? a=none:=by
  cases e:X.s₀.heap.get? a with
  |none=>rfl
  |some o=>obtain⟨o',e'⟩:=I.base.there a o e (by rw[hx];simp);rw[hm.new]at e';cases e'
 have hH:H a=none:=by
  cases e:H a with
  |none=>rfl
  |some o=>obtain⟨ob,q⟩:=I0 (I.hok a o e);rw[hm.new]at q;cases q
 exact zdl (I.kept hm.keeps) h0 hH he rfl rfl rfl hs hf hx hQ
theorem Fly.on (f:Fly P w base outer H s C a H' s' dd)(hl:s.heap.FunFrames base outer)(fl:∀B,FlD B outer a (.ref C) dd s'.heap->FlD B outer a (.ref C) dd h')(up:s'.heap.UpToSlots h'):Fly P w base outer H s C a H' {s' with heap:=h'} dd:=by obtain⟨B,h1,h2,h3,h4⟩:=f.hh;refine⟨f.os,f.bare,f.bV,f.bR,f.bW,f.free,⟨B,h1,h2,h3,fl B h4⟩,λb o e n hb=>?_⟩;obtain⟨sl,q⟩:=f.slot b o e n hb;obtain⟨_,o3,e3,nd⟩:=hl.mem hb;rw[e]at e3;cases e3;obtain⟨x6,e4⟩:=up b _ q nd;exact⟨x6,e4⟩
end
structure Lv (X:Cx)(H0:Hp)(c:Str):Prop where
 made:∀pins σ H s a C args h',Inv X pins σ H s->X.mg c=Z9 (.ref C)->Same H0 H->Heap.MadeExcOf s.heap h' a (.ref C) args->X.xe (.ref a) {s with heap:=h'}
 Jb:∀pins σ H s a C H' s',Inv X pins σ H s->X.mg c=Z9 (.ref C)->Same H0 H'->Fly X.prog X.w X.base X.stack H s C a H' s' Z8->X.xe (.ref a) s'
theorem Lv.mono (l:Lv X H0 c)(h:Same H0 H1):Lv X H1 c:=⟨λpins σ H s a C args h' I m z=>l.made pins σ H s a C args h' I m (h.trans z),λpins σ H s a C H' s' I m z=>l.Jb pins σ H s a C H' s' I m (h.trans z)⟩
def Rz (X:Cx)(f:Rho->Option Str)(σ:L2.St)(H:Hp):Prop:=∃ρ F c,StOk X.K F H σ ρ/\f ρ=Z9 c/\Lv X F.H0 c
def tR (X:Cx)(f:Rho->Option Str):TE:=λσ H _=>Rz X f σ H
def vF (X:Cx)(f:Rho->Option Str):TT:=λσ H _=>Rz X f σ H
def tRA (X:Cx)(f:Rho->Option Str):TA:=λσ H _=>Rz X f σ H
def tRS (X:Cx)(f:Rho->Option Str):TS:=λ_ σ H=>Rz X f σ H
def Ap (K:Z5)(mg:Str->Option Value)(n:Nat)(m:Fn):Sp:=λvs H _ E=>∃A ds c,vs.length=n/\Reps K H A vs ds/\excOf (m ds)=Z9 c/\∀C H',mg c=Z9 (.ref C)->Same H H'->E (.ref C) Z8 H'
def CalX (P:bu)(w:World)(K:Z5)(mg:Str->Option Value)(base:Heap)(k:Nat)(x:Str)(ps:List Str)(n:Nat)(m:Fn):Prop:=∃f fd,FnOk P w K mg base (An P w base) k f fd ps (Ap K mg n m)/\mg x=Z9 (.ref f)/\W.keepIn K (.ref f)=Z7/\Binds K fd ps []
section
variable {X:Cx}{e:Expr}{es:List Expr}{pos:Pos}
theorem x8 (h:∀ρ,f ρ=Z8)(σ:L2.St)(H:Hp):¬Rz X f σ H:=λ⟨ρ,F,c,_,e,_⟩=>by rw[h ρ]at e;cases e
theorem z55 (Cc:CalX X.prog X.w X.K X.mg X.base k x ps n m)(hr:Room k' X.A)(hk:k<=k')(ha:PA X (e::es) (tDA X.K fs))(hst:((e::es).all fun e=> !isStar e)=Z7)(hg:Gl X x)(hdb:VI x)
  (hl:∀ρ ys,fs ρ=.ok ys->ys.length=n) (I:Inv X pins σ H s) (so:StOk X.K F H σ ρ) (e2:fs ρ=.ok ys) (e3:excOf (m (ys.map (·.2)))=Z9 c)
  (hE:∀H1 s1 C a H' s',Inv X pins σ H1 s1->Same H H1->X.mg c=Z9 (.ref C)->Same H1 H'->Fly X.prog X.w X.base X.stack H1 s1 C a H' s' Z8->X.xe (.ref a) s'):wpAny (model X.prog X.w) X.A (eval (.Call (.Name x p) (e::es) [] pos) X.env) (λ_ _=>False) X.xe s:=by
 obtain⟨f,fd,Fo,hm,kp,b⟩:=Cc;rw[fg,a6]at hst;refine i0 (z3m I hg hm ?_ hdb);refine W.callWith_K I.ok.mod.uI kp (aI (ha pos pins s σ H (λvs H1=>Same H H1/\dO X.K F H H1 vs ys) I ⟨ρ,F,ys,so,e2,λvs H1 s1 rg=>⟨s1,rg⟩⟩) λus s1 zz=>?_) (jQ (by simpa using hst.1)) (oE hst.2);obtain⟨vs,H1,I1,r,z1,rg⟩:=zz;refine⟨I1.eY,?_⟩;have kR:Ap X.K X.mg n m vs H1 (λ_ _=>False) (λv dd H'=>dd=Z8/\X.mg c=Z9 v/\Same H1 H'):=⟨_,_,c,by rw[rg.len];exact hl ρ ys e2,rg.jE so.aK,e3,λC H' hC sm=>⟨rfl,hC,sm⟩⟩;have hlen:us.length=ps.length:=by rw[<-r.length];exact Fo.len _ _ _ _ kR
 have hb:=b s1 us I1.eY (by rw[e9];exact hlen);rw[e9]at hb;refine wpAny_call (py (Fo.run X.A X.stack s1 H1 ⟨us,[]⟩ us vs _ _ (hr.mono hk) I1.wx hb r kR) λrr s' hq=>?_);cases rr with
 |error e'=>obtain⟨a,C,dd,H',rfl,fl,rfl,q1,q2⟩:=hq;exact hE H1 s1 C a H' s' I1 z1 q1 q2 fl
 |ok fl=>
  cases fl with
  |ret u=>obtain⟨_,_,_,_,_,_,_,z⟩:=hq;exact z.elim
  |next=>exact hq.elim
  |brk=>exact hq.elim
  |cont=>exact hq.elim
theorem zix (Cc:CalX X.prog X.w X.K X.mg X.base k x ps n m)(hr:Room k' X.A)(hk:k<=k')(ha:PA X (e::es) (tDA X.K fs))(hx:PA X (e::es) (tRA X fx))(hst:((e::es).all fun e=> !isStar e)=Z7)(hg:Gl X x)(hdb:VI x)
  (hl:∀ρ ys,fs ρ=.ok ys->ys.length=n):PE X (.Call (.Name x p) (e::es) [] pos) (tR X λρ=>match fs ρ with|.ok ys=>excOf (m (ys.map (·.2)))|_=>fx ρ):=by
 intro pins s σ H Q I hq;obtain⟨ρ,F,c,so,e1,lv⟩:=hq;have e1:(match fs ρ with|.ok ys=>excOf (m (ys.map (·.2)))|_=>fx ρ)=Z9 c:=e1
 have raw:(∃ys,fs ρ=.ok ys/\excOf (m (ys.map (·.2)))=Z9 c)\/fx ρ=Z9 c:=by
  cases e2:fs ρ with
  |ok ys=>rw[e2]at e1;exact .inl ⟨ys,rfl,e1⟩
  |exc z=>rw[e2]at e1;exact .inr e1
  |no=>rw[e2]at e1;exact .inr e1
 rcases raw with⟨ys,e2,e3⟩|e2
 .exact aI (z55 Cc hr hk ha hst hg hdb hl I so e2 e3 λH1 s1 C a H' s' I1 z1 q1 sm fl=>lv.Jb pins σ H1 s1 a C H' s' I1 q1 (Same.trans so.ext (z1.trans sm)) fl) λ_ _ z=>z.elim
 .obtain⟨f,fd,Fo,hm,kp,b⟩:=Cc;rw[fg,a6]at hst;refine i0 (z3m I hg hm ?_ hdb);refine W.callWith_K I.ok.mod.uI kp (aI (hx pos pins s σ H (λ_ _=>False) I ⟨ρ,F,c,so,e2,lv⟩) λus s1 q=>?_) (jQ (by simpa using hst.1)) (oE hst.2);obtain⟨vs,H1,I1,r,q⟩:=q;exact q.elim
theorem QH (hs:isStar e=Z6)(ha:PE X e (tD X.K fa))(hx:PE X e (tR X fx))(hr:PA X es (tRA X fr)):PA X (e::es) (tRA X λρ=>match fa ρ with|.ok _=>fr ρ|_=>fx ρ):=by
 intro pos pins s σ H Q I hq;obtain⟨ρ,F,c,so,e1,lv⟩:=hq;have e1:(match fa ρ with|.ok _=>fr ρ|_=>fx ρ)=Z9 c:=e1
 have raw:(∃y,fa ρ=.ok y/\fr ρ=Z9 c)\/fx ρ=Z9 c:=by
  cases e2:fa ρ with
  |ok ys=>rw[e2]at e1;exact .inl ⟨ys,rfl,e1⟩
  |exc z=>rw[e2]at e1;exact .inr e1
  |no=>rw[e2]at e1;exact .inr e1
 rw[jQ hs];rcases raw with⟨y,e2,e3⟩|e2
 .refine ny (aI (ha pins s σ H (λv H1=>Same H H1) I ⟨ρ,F,y,so,e2,λv H1 s1 _=>s1⟩) λu s1 zz=>?_);obtain⟨v,H1,I1,r1,q1⟩:=zz;exact aI (hr pos pins s1 σ H1 (λ_ _=>False) I1 ⟨ρ,F,c,so.same q1,e3,lv⟩) λus s2 zz=>by obtain⟨_,_,_,_,z⟩:=zz;exact z.elim
 .exact ny (aI (hx pins s σ H (λ_ _=>False) I ⟨ρ,F,c,so,e2,lv⟩) λu s1 zz=>by obtain⟨_,_,_,_,z⟩:=zz;exact z.elim)
theorem QI (ha:PT X a (vF X f)):PT X (.UnaryOp .Not a pos) (vF X f):=PT.imp (Gx ha) λσ H Q z=>z
theorem QJ (ha:PE X e (tR X f))(he:∀whole,qj e X.env whole=(do let v <-whole;ux e.pos;tz [v] (u1 v))):PT X e (vF X f):=PT.imp (LU ha he) λσ H Q z=>z
theorem QK (hs:z27 e=Z6)(ha:PE X e (tR X f)):PS X (.Expr e pos) (tRS X f):=PS.imp (oF ha hs) λD σ H z=>z
theorem QL {i:Nat}(hN:X.N.Nodup)(hi:X.N[i]?=Z9 x)(hx:Loc X.env.scope x)(hf:X.fn x=Z7\/X.env.scope.names.lookup x=Z9 .local)(hs:z27 e=Z6)(ha:PE X e (tR X f)):PS X (.Assign [.Name x px] e pos) (tRS X f):=PS.imp (wJ hN hi hx ha hs hf) λD σ H z=>z
theorem QM (ha:PE X e (tR X f)):PS X (.Return (Z9 e) pos) (tRS X f):=PS.imp (BD ha) λD σ H z=>z
theorem QN (hc:PT X c (eA X.K ft))(hx:PT X c (vF X fx))(ha:PSs X A (tRS X fa))(hb:PSs X B (tRS X fb)):PS X (.If c A B pos) (tRS X λρ=>match ft ρ with|.ok k=>if k then fa ρ else fb ρ|_=>fx ρ):=by
 intro pins s σ H D I hq;obtain⟨ρ,F,cl,so,e1,lv⟩:=hq;have e1:(match ft ρ with|.ok k=>if k then fa ρ else fb ρ|_=>fx ρ)=Z9 cl:=e1
 have raw:(∃k,ft ρ=.ok k/\(if k then fa ρ else fb ρ)=Z9 cl)\/fx ρ=Z9 cl:=by
  cases e2:ft ρ with
  |ok ys=>rw[e2]at e1;exact .inl ⟨ys,rfl,e1⟩
  |exc z=>rw[e2]at e1;exact .inr e1
  |no=>rw[e2]at e1;exact .inr e1
 rcases raw with⟨k,e2,e3⟩|e2
 .refine GA hc ha hb pins s σ H D I ⟨ρ,F,k,so,e2,λH1 s1=>?_⟩;cases k with
  |true=>exact fR ⟨ρ,F,cl,so.same s1,e3,lv⟩
  |false=>exact fQ ⟨ρ,F,cl,so.same s1,e3,lv⟩
 .exact wpAny_If (aI (hx pins s σ H (λ_ _=>False) I ⟨ρ,F,cl,so,e2,lv⟩) λd s1 zz=>by obtain⟨_,_,z⟩:=zz;exact z.elim)
theorem QO {st:Stmt}{rest:List Stmt}(h1:PS X st (tDS X.K fs))(hx:PS X st (tRS X fx))(h2:PSs X rest (tRS X gx)):PSs X (st::rest) (tRS X λρ=>match fs ρ with|.ok (.nx aL)=>gx aL|.ok _=>Z8|_=>fx ρ):=by
 intro pins s σ H D I hq;obtain⟨ρ,F,cl,so,e1,lv⟩:=hq;have e1:(match fs ρ with|.ok (.nx aL)=>gx aL|.ok _=>Z8|_=>fx ρ)=Z9 cl:=e1
 have raw:(∃aL,fs ρ=.ok (.nx aL)/\gx aL=Z9 cl)\/fx ρ=Z9 cl:=by
  cases e2:fs ρ with
  |ok o=>
   rw[e2]at e1;cases o with
   |nx aL=>exact .inl ⟨aL,rfl,e1⟩
   |rt=>cases e1
  |exc z=>rw[e2]at e1;exact .inr e1
  |no=>rw[e2]at e1;exact .inr e1
 rcases raw with⟨aL,e2,e3⟩|e2
 .exact BA h1 h2 pins s σ H D I ⟨ρ,F,_,so,e2,λσ' H' F' qK r f=>⟨aL,F',cl,qK,e3,lv.mono r.1⟩⟩
 .refine kb (aI (hx pins s σ H ⟨λ_ _=>False,λ_ _=>False,λ_ _=>False,λ_ _=>False⟩ I ⟨ρ,F,cl,so,e2,lv⟩) λf s1 q=>?_);cases f with
  |next=>obtain⟨_,_,_,z⟩:=q;exact z.elim
  |brk=>obtain⟨_,_,_,z⟩:=q;exact z.elim
  |cont=>obtain⟨_,_,_,z⟩:=q;exact z.elim
  |ret u=>obtain⟨_,_,_,_,_,z⟩:=q;exact z.elim
theorem zor (hp:g6 (model X.prog X.w) X.A X.env X.xe)(hc:X.calm=Z7)(hi:PI X tg iter (tDF X.K fw))(hg:PG X tg (tDG X.K t))(hb:PSs X body (tDS X.K fs))(hx:PSs X body (tRS X fx))(hs:∀x,gm iter X.env x=pure x):
  PS X (.For tg iter body [] pos) (tRS X λρ=>match fw ρ with
   |.ok w=>eS (λx ρ1=>cX t (gJ x w.1,x) ρ1>>=λbL=>fs bL) (λx ρ1=>match cX t (gJ x w.1,x) ρ1 with|.ok bL=>fx bL|_=>Z8) w.2.1 w.2.2
   |_=>Z8):=by
 have QP:PSs X body (λD σ H=>tDS X.K fs D σ H\/tRS X fx D σ H):=λpins s σ H D I z=>z.elim (hb pins s σ H D I) (hx pins s σ H D I);refine PS.imp (zi2 hp hc hi hg QP hs) λD σ H zz=>?_;obtain⟨ρ,F,c,so,e,lv⟩:=zz
 dsimp only at e
 cases e1:fw ρ with
 |no=>rw[e1]at e;cases e
 |exc z=>rw[e1]at e;cases e
 |ok w=>
  rw[e1]at e
  dsimp only at e
  refine⟨ρ,F,w,so,e1,λJ B H1 F1 s1 r1 f1 nO Dd De wk=>?_⟩;generalize hf:(λx ρ1=>cX t (gJ x w.1,x) ρ1>>=λbL=>fs bL)=f at e;generalize D':(λx ρ1=>match cX t (gJ x w.1,x) ρ1 with|.ok bL=>fx bL|_=>Z8)=gx at e
  have kp:∀{F2:Fm} {H2:Hp},cH F1 H1 F2 H2->Kp B H1 H2:=λ{F2 H2} fr a o e b=>by
   have hO:F1.O a=none:=by
    rcases b with b|b
    .exact Dd a b
    .cases e2:F1.O a with
     |none=>rfl
     |some j=>obtain⟨_,_,h'⟩:=nO.own a j e2;rcases h' with⟨xs,h'⟩|⟨xs,h'⟩<;>rw[e]at h'<;>cases h'<;>exact b.elim
   exact(fr a o e hO).1
  let W:Nat->Nat->L2.St->Hp->Prop:=λi m wo H2=>m=w.2.1.length-i/\i<=w.2.1.length/\∃bL F2,StOk X.K F2 H2 wo bL/\Run F1 F2/\cH F1 H1 F2 H2/\eS f gx (w.2.1.drop i) bL=Z9 c
  refine⟨W,⟨_,rfl,e8 _,w.2.2,F1,nO,Run.refl,cH.refl,e⟩,?_⟩
  rintro i m wo H2 ⟨rfl,Df,bL,F2,C5,r2,f2,e2⟩
  by_cases eF:i<w.2.1.length
  .refine .inr ⟨wk.go H2 (kp f2) i eF,W (i+1) (w.2.1.length-(i+1)),λσ' H' p=>⟨_,by omega,p⟩,λx H3 y=>?_⟩;obtain⟨s3,d,hd,rx⟩:=wk.jO H2 (kp f2) i x H3 eF y
   have Dg:w.2.1.drop i=d::w.2.1.drop (i+1):=by
    have dc:=gb eF;rw[dc];have:w.2.1[i]=d:=by rw[au eF]at hd;exact vn hd
    rw[this]
   rw[Dg]at e2;simp only[eS]at e2;have QQ:=C5.same s3
   have xn:Rep X.K H3 (BI F2 (gJ d w.1)) x d:=by
    have Dh:∀g a,BI F1 g a->BI F2 g a:=λg a b=>by cases g<;>cases a<;>first|exact b|(have b':F1.V _:=b;rw[<-r2.2.1]at b';exact b')|(have b':F1.z:=b;rw[<-r2.2.2]at b';exact b')|(have b':F1.H0 _≠Z8/\F1.V _:=b;exact⟨λz=>b'.1 (none_of r2.1 z),by rw[r2.2.1];exact b'.2⟩)
    unfold gJ;by_cases hi:imm d=Z7
    .rw[vh hi];exact Rep.immB d hi rx
    .rw[vm hi];exact rx.weak λa b=>Dh _ _ (De a b)
   cases e5:cX t (gJ d w.1,d) bL with
   |no=>rw[<-hf,<-D']at e2;simp only[e5,Res.oH]at e2;cases e2
   |exc z=>rw[<-hf,<-D']at e2;simp only[e5,Res.lN]at e2;cases e2
   |ok sU=>
    have ef:f d bL=fs sU:=by rw[<-hf];show(cX t (gJ d w.1,d) bL>>=λbL=>fs bL)=_;rw[e5];rfl
    have eg:gx d bL=fx sU:=by rw[<-D'];show(match cX t (gJ d w.1,d) bL with|.ok bL=>fx bL|_=>Z8)=_;rw[e5]
    rw[ef,eg]at e2;refine⟨bL,F2,(gJ d w.1,d),sU,QQ,xn,e5,λjC F4 qJ Aq=>?_⟩;have r4:=r2.trans (Run.of Aq.h0 Aq.v Aq.z);have f4:=f2.trans λa o e n=>⟨s3 a o e,Aq.o a n⟩;cases e6:fs sU with
    |ok o1=>
     rw[e6]at e2;refine .inl ⟨sU,F4,o1,qJ,e6,?_⟩;cases o1 with
     |nx Di=>exact λσ' H' F' qK r' f'=>⟨rfl,eF,Di,F',qK,r4.trans r',f4.trans f',e2⟩
     |rt g d=>cases e2
    |exc z=>rw[e6]at e2;exact .inr ⟨sU,F4,c,qJ,e2,lv.mono (r1.trans r4).1⟩
    |no=>rw[e6]at e2;exact .inr ⟨sU,F4,c,qJ,e2,lv.mono (r1.trans r4).1⟩
  .have Dj:i=w.2.1.length:=by omega
   subst Dj;rw[pc]at e2;cases e2
theorem QR:PSs X [] (tRS X λ_=>Z8):=λpins s σ H D I hq=>(x8 (λ_=>rfl) σ H hq).elim
theorem QS {C:Addr}(hh:X.A.handled=Z8)(hg:Gl X x)(hm:X.mg x=Z9 (.ref C))(hdb:VI x)(hC:x4 X.K C=Z7):PS X (.Raise (Z9 (.Call (.Name x np) [.Constant (.str z) kk kp] [] cp)) Z8 pos) (tRS X λ_=>Z9 x):=by
 intro pins s σ H D I hq;obtain⟨ρ,F,c,so,e1,lv⟩:=hq;cases e1;obtain⟨bm,N,nm,q,bs,hdct,sn,sub,ab,col,dd,k0,k1,k2,k3,k5,mN,oC,hN,QT,T⟩:=D6.mk I.mod.uI hC;have hb:=T.hasType (X:="BaseException") rfl;have oU:(kj cp (eo [.Constant (.str z) kk kp] X.env)).any (·.1)=false:=rfl;have hA:=za (X:=X) (Gw (x:=z) (j:=kk) (pos:=kp)) rK;refine wpAny_Raise_call_subT (nm:=nm) (q:=q) (N:=N) (bs:=bs) (hdct:=hdct) (sn:=sn) (sub:=sub) (ab:=ab) (col:=col) (dd:=dd) (k0:=k0) (k1:=k1) (k2:=k2) (k3:=k3) (k5:=k5) PySem.F.excBase_ValueError hb hh oU QT (z3m I hg hm ⟨rfl,?_⟩ hdb);have QU:=hA cp pins s σ H (λvs H1=>vs.length=1/\H1=H) I ⟨rfl,rfl⟩;refine qq (aI QU λus s1 zz=>?_);obtain⟨vs,H1,I1,r,hv,rfl⟩:=zz;have hl:us.length=1:=by rw[<-r.length];exact hv
 exact⟨rfl,by rw[hl];decide,I1.bk _ _ oC,hN.keeps I1.bk,T.keeps I1.bk,λh' a hx=>lv.made pins σ H1 s1 a C us h' I1 hm so.ext hx⟩
end
def nR (X:Cx)(i:Nat)(n:Str)(a:Addr)(oe:Obj):Cx:={X with A:=X.A.mark (Z9 (.ref a)),N:=X.N.set i "",calm:=Z6,pn:=(a,oe)::X.pn,xe:=λ_ _=>False,fx:=Z9 (n,.ref a)}
section
variable {X:Cx}{pins:List (Addr×Obj)}{σ:L2.St}{H:Hp}{s:ak}{i:Nat}{n:Str}{a:Addr}{oe:Obj}
theorem QV (ok:X.Ok)(nd:X.N.Nodup)(d:X.N[i]?=Z9 n)(f:X.env.scope.names.lookup ("":Str)=Z8)(c:X.env.scope.names.lookup n=Z9 .local):(nR X i n a oe).Ok:=by
 refine⟨ok.mod,ok.kind,ok.glob,ok.blt,ok.above,ok.inj,ok.has,ok.pY,λz=>(by cases z),ok.frames,ok.rC,ok.rD,ok.bs,ok.iL,ok.gT,ok.gU,ok.cN,ok.nD,λx u z=>?_⟩;cases z;refine⟨λhm=>?_,c⟩;obtain⟨j,b⟩:=c8.mp hm;have b:(X.N.set i "")[j]?=Z9 n:=b;by_cases e:i=j
 .subst e;rw[cu (aq.mp d).1]at b;cases b;rw[f]at c;cases c
 .rw[bh e]at b;exact e (wg nd d b)
theorem zni (I:Inv X b g H s)(nd:X.N.Nodup)(h:X.N[i]?=Z9 n)(t:X.env.scope.names.lookup ("":Str)=Z8)(l:X.env.scope.names.lookup n=Z9 .local)(o:g[i]?=Z9 (Z9 (.ref a)))
  (w:s.heap.get? a=Z9 oe) (y:H a=Z8) (A:a≠X.env.locals) (B:a∉X.fs) (C:∀v,oe.data≠.cell v):Inv (nR X i n a oe) b (g.set i Z8) H s:=by
 obtain⟨m,hn,c⟩:=I.loc;refine⟨QV I.ok nd h t l,I.os,I.bare,I.base,⟨m,hn,λj x v d f D=>?_⟩,I.cell,I.free,I.bE,λp r=>?_,I.hok,?_,λx u z=>?_⟩
 .have d:(X.N.set i "")[j]?=Z9 x:=d;by_cases e:i=j
  .subst e;rw[cu (I.len▸(aq.mp h).1)]at f;cases f
  .rw[bh e]at d f;exact c j x v d f D
 .rcases ay.mp r with rfl|r
  .exact⟨w,y,A,B,C⟩
  .exact I.pin p r
 .show(g.set i Z8).length=(X.N.set i "").length;rw[cg,cg];exact I.len
 .cases z;obtain⟨u,rfl,q⟩:=c i n (.ref a) h o (.inl l);rcases q with⟨_,q⟩|⟨k,_⟩
  .exact⟨m,hn,q⟩
  .have k:X.env.scope.names.lookup n=Z9 .cell\/X.env.scope.names.lookup n=Z9 .free:=k;rcases k with k|k<;>(rw[l]at k;cases k)
theorem QW (ok:X.Ok)(h:X.fx=Z8)(k:X.N[i]?=Z9 n)(I:Inv (nR X i n a oe) c g H s):Inv X c (g.set i Z8) H s:=by
 obtain⟨m,hn,f⟩:=I.loc;have b:g.length=(X.N.set i "").length:=I.len;rw[cg]at b;refine⟨ok,I.os,I.bare,I.base,⟨m,hn,λj x v l d o=>?_⟩,I.cell,I.free,I.bE,λp q=>I.pin p (ba _ q),I.hok,by rw[cg];exact b,λx u z=>by rw[h]at z;cases z⟩;by_cases e:i=j
 .subst e;rw[cu (b▸(aq.mp k).1)]at d;cases d
 .rw[bh e]at d;exact f j x v (show(X.N.set i "")[j]?=Z9 x by rw[bh e];exact l) d o
theorem zqr (I:Inv X f σ H s)(a:X.fx=Z8)(nd:X.N.Nodup)(t:X.N[i]?=Z9 n)(B:X.env.scope.names.lookup n=Z9 .local)(C:σ[i]?=Z9 (Z9 v))
  (h:∀K,Inv X f (σ.set i Z8) H K->Q () K):wpAny M A (mi X.env n pos) Q E s:=by
 obtain⟨m,hn,g⟩:=id I.loc;have kO:=I.kO;obtain⟨u,r,q⟩:=g i n v t C (.inl B)
 have O:m n=Z9 u:=by
  rcases q with⟨_,q⟩|⟨k,_⟩
  .exact q
  .have k:X.env.scope.names.lookup n=Z9 .cell\/X.env.scope.names.lookup n=Z9 .free:=k;rcases k with k|k<;>(rw[B]at k;cases k)
 refine wpAny_onRaise (wpAny_unbindName_local B hn O (by rw[I.ok.kind];rfl) λh' u' D hs=>h _ ?_);have old:∀b o,X.s₀.heap.get? b=Z9 o->b≠X.env.locals:=λb o e=>cz (b7 (bg e) I.ok.above);refine⟨I.ok,I.os,I.bare,⟨λb o e z F a=>(hs.2 b (old b o e)).trans (I.base.keep b o e z F a),λb o e z F a=>?_,I.base.free,λb o e a=>?_,I.base.bV,I.base.bR,I.base.bW⟩,⟨_,D,λj y w d l P=>?_⟩,λy c e=>?_,I.free,I.bE,λp R=>?_,λb ob e=>?_,by rw[cg];exact I.len,λx u z=>by rw[a]at z;cases z⟩
 .obtain⟨sl,d⟩:=I.base.slot b o e z F a;exact⟨sl,(hs.2 b (old b o e)).trans d⟩
 .obtain⟨S,d⟩:=I.base.there b o e a;exact⟨S,(hs.2 b (old b o e)).trans d⟩
 .by_cases G:i=j
  .subst G;rw[cu (I.len▸(aq.mp t).1)]at l;cases l
  .rw[bh G]at l;obtain⟨T,U,J⟩:=g j y w d l P;refine⟨T,U,?_⟩;have V:y≠n:=λz=>G (wg nd t (z▸d));rcases J with⟨k,J⟩|⟨k,c,e,z⟩
   .exact .inl ⟨k,by simp only[vm V];exact J⟩
   .exact .inr ⟨k,c,e,z.sameBut hs (kO y c e)⟩
 .obtain⟨w,z⟩:=I.cell y c e;exact⟨w,z.sameBut hs (kO y c e)⟩
 .obtain⟨e,W,ne,nf,Y⟩:=I.pin p R;exact⟨(hs.2 p.1 ne).trans e,W,ne,nf,Y⟩
 .have L:∀c w,H c=Z9 w->c≠X.env.locals:=λc w q z=>by rw[z,I.free]at q;cases q
  exact(I.hok b ob e).stay (λc w hc q=>(hs.2 c (hc.elim (λz=>by rw[z];exact L b _ e) λz=>L c _ z)).trans q) (λ_ q=>q) λ_ _ q=>q
theorem zcq (ok:X.Ok)(hx:X.fx=Z8)(nd:X.N.Nodup)(hi:X.N[i]?=Z9 n)(hl:X.env.scope.names.lookup n=Z9 .local)(hnx:∀σ' H',D2.nx σ' H'->Dn.nx (σ'.set i Z8) H')(hrt:∀v H',D2.rt v H'->Dn.rt v H')(hbk:∀σ' H',¬D2.bk σ' H')(hct:∀σ' H',¬D2.ct σ' H')
  (h:SP (nR X i n a oe) pins D2 f s):wpAny M X.A (do bindName X.env n .none;mi X.env n pos) (λ_ s5=>SP X pins Dn f s5) E s:=by
 have key:∀{σ':L2.St} {H':Hp} {Q:Unit->ak->Prop},Inv (nR X i n a oe) pins σ' H' s->(∀s5,Inv X pins (σ'.set i Z8) H' s5->Q () s5)->wpAny M X.A (do bindName X.env n .none;mi X.env n pos) Q E s:=λ{σ' H' Q} I k=>by have I1:=QW ok hx hi I;refine aa (wpAny_bindName (z43 I1 nd hi (.inl hl) (v:=.bU) rfl (λs4 I4 _=>?_) (.inr hl)));refine zqr I4 hx nd hi hl (cu (I1.len▸(aq.mp hi).1)) λs5 I5=>k s5 ?_;rw[um,um]at I5;exact I5
 cases f with
 |next=>obtain⟨σ',H',I,q⟩:=h;exact key I λs5 I5=>⟨_,H',I5,hnx σ' H' q⟩
 |ret u=>obtain⟨v,σ',H',I,r,q⟩:=h;exact key I λs5 I5=>⟨v,_,H',I5,r,hrt v H' q⟩
 |brk=>obtain⟨σ',H',_,q⟩:=h;simp_all
 |cont=>obtain⟨σ',H',_,q⟩:=h;simp_all
theorem QX {C:Addr}(f:Fly P w base outer H s C a b d g):b a=none:=by
 obtain⟨B,_,c,_,fl⟩:=f.hh;cases e:b a with
 |none=>rfl
 |some u=>obtain⟨o,q⟩:=I0 (c a u e);rw[fl.2.1]at q;cases q
end
section
variable {X:Cx}{n x:Str}{p p1 p2 pos:Pos}{a C:Addr}{oe:Obj}{v:V}{u:Value}{b:Bool}
theorem Jc (c:X.fx=Z9 (n,.ref a))(d:X.env.scope.names.lookup n=Z9 .local)(hd:VI n):PE X (.Name n p) (λ_ H Q=>Q (.ref a) H):=by intro b s e H Q I h;obtain⟨m,hn,hm⟩:=I.fx n _ c;exact tj (qk I.ok.kind d hn hm ⟨.ref a,H,I,rfl,h⟩) hd
theorem QY (a:Gl X x)(hm:X.mg x=Z9 u\/(X.mg x=Z8/\eh x=Z9 u/\x≠"__name__"))(r:RelV v u)(hd:VI x):PE X (.Name x p) (λ_ H Q=>Q v H):=by
 intro b s f H Q I h;rcases hm with hm|⟨c,d,e⟩
 .exact z3m I a hm ⟨v,H,I,r,h⟩ hd
 .exact z56 I a c d ⟨v,H,I,r,h⟩ e hd
def Xh (X:Cx)(a:Addr)(oe:Obj):Prop:=∀pins σ H s,Inv X pins σ H s->s.heap.get? a=Z9 oe
theorem zt3 (hm:X.mg "isinstance"=Z8)(k:Gl X "isinstance")(l:X.fx=Z9 (n,.ref a))(m:X.env.scope.names.lookup n=Z9 .local)(hd:VI n)(o:Xh X a oe)(hc:oe.cls=.ref C)
  (f:Gl X x) (g:X.mg x=Z9 u\/(X.mg x=Z8/\eh x=Z9 u/\x≠"__name__")) (r:RelV v u) (t:∀w,RelV v w->w=u) (h:VI x) (xa:XA X.K C) (y:XV X.K u) (hs:Z4 X.K (.ref C) u=Z9 b):
  PE X (.Call (.Name "isinstance" p) [.Name n p1,.Name x p2] [] pos) (tD X.K λ_=>.ok (.fr,.bool b)):=by
 rintro c s A H Q I ⟨N,F,z,so,e,q⟩
 cases e;refine i0 (z56 (u:=.builtin "isinstance") I k hm (by decide+kernel) ?_ dc dc);refine PyProof.Rows.callWith_builtin1 (aI ((za (Jc (p:=p1) l m hd) (za (QY (p:=p2) f g r h) rK)) pos c s A H (λj d=>j=[.ref a,v]/\d=H) I ⟨rfl,rfl⟩) λO P B=>?_) rfl rfl;obtain⟨j,d,i,D,rfl,rfl⟩:=B;cases D with
 |cons E rt=>
  cases rt with
  |cons G rn=>cases rn;rename_i J L;obtain rfl:J=ZU a:=E;have M:=t L G;subst M;exact zty i.eY xa (o _ _ _ _ i) hc y hs λR=>⟨.bl b,d,i.tok _,rfl,q _ d (Same.refl d) rfl⟩
end
section
theorem aE (h:(a&&b)=Z7):a=Z7/\b=true:=bj.mp h
theorem cA (h:(a&&b&&c)=Z7):a=Z7/\b=Z7/\c=true:=⟨(aE (aE h).1).1,(aE (aE h).1).2,(aE h).2⟩
theorem cZ (h:(a&&b&&c&&d)=Z7):a=Z7/\b=Z7/\c=Z7/\d=true:=⟨(cA (aE h).1).1,(cA (aE h).1).2.1,(cA (aE h).1).2.2,(aE h).2⟩
theorem dA (h:(a&&b&&c&&d&&e)=Z7):a=Z7/\b=Z7/\c=Z7/\d=Z7/\e=true:=⟨(cZ (aE h).1).1,(cZ (aE h).1).2.1,(cZ (aE h).1).2.2.1,(cZ (aE h).1).2.2.2,(aE h).2⟩
theorem gS (h:(!b)=Z7):b=false:=by cases b<;>first|rfl|cases h
theorem ff {p:Prop}(h:b=Z6)(z:b=Z7):p:=by rw[h]at z;cases z
theorem iJ (h:l.isEmpty=Z7):l=[]:=by cases l<;>first|rfl|cases h
theorem vG (h:(!l.isEmpty)=Z7):∃x r,l=x::r:=by cases l<;>first|exact⟨_,_,rfl⟩|cases h
theorem aS (h:o.any f=Z7):∃v,o=Z9 v/\f v=true:=by
 cases o with
 |none=>cases h
 |some v=>exact⟨v,rfl,h⟩
theorem cB {a:Type}{o:Option a}{v:a}{q:a->Prop}(h:o=Z9 v)(d:o=Z8\/∃u,o=Z9 u/\q u):q v:=by grind
theorem x9 (h:Cs e=Z9 v):∃p,e=.Name v p:=cB (q:=λv=>∃p,e=.Name v p) h (by cases e<;>first|exact .inl rfl|exact .inr ⟨_,rfl,_,rfl⟩)
theorem ya (h:kA e=Z9 v):∃k p,e=.Constant v k p:=cB (q:=λv=>∃k p,e=.Constant v k p) h (by cases e<;>first|exact .inl rfl|exact .inr ⟨_,rfl,_,_,rfl⟩)
theorem QZ (h:wU e=Z9 v):∃p,e=.BinOp v.1 v.2.1 v.2.2 p:=cB (q:=λv=>∃p,e=.BinOp v.1 v.2.1 v.2.2 p) h (by cases e<;>first|exact .inl rfl|exact .inr ⟨_,rfl,_,rfl⟩)
theorem sV (h:Ct e=Z9 v):∃p,e=.UnaryOp v.1 v.2 p:=cB (q:=λv=>∃p,e=.UnaryOp v.1 v.2 p) h (by cases e<;>first|exact .inl rfl|exact .inr ⟨_,rfl,_,rfl⟩)
theorem yb (h:Cu e=Z9 v):∃p,e=.Compare v.1 v.2.1 v.2.2 p:=cB (q:=λv=>∃p,e=.Compare v.1 v.2.1 v.2.2 p) h (by cases e<;>first|exact .inl rfl|exact .inr ⟨_,rfl,_,rfl⟩)
theorem pG (h:wV e=Z9 v):e=.BoolOp v.1 v.2.1 v.2.2:=cB (q:=λv=>e=.BoolOp v.1 v.2.1 v.2.2) h (by cases e<;>first|exact .inl rfl|exact .inr ⟨_,rfl,rfl⟩)
theorem Q0 (h:wW e=Z9 v):∃p,e=.IfExp v.1 v.2.1 v.2.2 p:=cB (q:=λv=>∃p,e=.IfExp v.1 v.2.1 v.2.2 p) h (by cases e<;>first|exact .inl rfl|exact .inr ⟨_,rfl,_,rfl⟩)
theorem Ea (h:rX e=Z9 v):∃k p,e=.Tuple v k p:=cB (q:=λv=>∃k p,e=.Tuple v k p) h (by cases e<;>first|exact .inl rfl|exact .inr ⟨_,rfl,_,_,rfl⟩)
theorem Q1 (h:wX e=Z9 v):∃p,e=.List v p:=cB (q:=λv=>∃p,e=.List v p) h (by cases e<;>first|exact .inl rfl|exact .inr ⟨_,rfl,_,rfl⟩)
theorem Eb (h:Hg e=Z9 v):∃p,e=.Dict v.1 v.2 p:=cB (q:=λv=>∃p,e=.Dict v.1 v.2 p) h (by cases e<;>first|exact .inl rfl|exact .inr ⟨_,rfl,_,rfl⟩)
theorem Ec (h:oO e=Z9 v):∃p,e=.Subscript v.1 v.2 p:=cB (q:=λv=>∃p,e=.Subscript v.1 v.2 p) h (by cases e<;>first|exact .inl rfl|exact .inr ⟨_,rfl,_,rfl⟩)
theorem Q2 (h:wY e=Z9 v):∃p,e=.Slice v.1 v.2.1 v.2.2 p:=cB (q:=λv=>∃p,e=.Slice v.1 v.2.1 v.2.2 p) h (by cases e<;>first|exact .inl rfl|exact .inr ⟨_,rfl,_,rfl⟩)
theorem yc (h:Cv e=Z9 v):e=.Call v.1 v.2.1 v.2.2.1 v.2.2.2:=cB (q:=λv=>e=.Call v.1 v.2.1 v.2.2.1 v.2.2.2) h (by cases e<;>first|exact .inl rfl|exact .inr ⟨_,rfl,rfl⟩)
theorem Ed (h:Hh e=Z9 v):e=.Attribute v.1 v.2.1 v.2.2:=cB (q:=λv=>e=.Attribute v.1 v.2.1 v.2.2) h (by cases e<;>first|exact .inl rfl|exact .inr ⟨_,rfl,rfl⟩)
theorem Ee (h:Hi e=Z9 v):∃p,e=.ListComp v.1 v.2.1 v.2.2 p:=cB (q:=λv=>∃p,e=.ListComp v.1 v.2.1 v.2.2 p) h (by cases e<;>first|exact .inl rfl|exact .inr ⟨_,rfl,_,rfl⟩)
theorem pH (h:fU l=Z9 v):l=[v]:=by rcases l with _|⟨x,_|⟨y,l⟩⟩<;>cases h;rfl
theorem Ef (h:oP l=Z9 v):l=[v.1,v.2]:=by rcases l with _|⟨x,_|⟨y,_|⟨z,l⟩⟩⟩<;>cases h;rfl
theorem lB (h:nM e=Z9 v):∃q p,e=.Call (.Name v.1 q) v.2 [] p:=by
 obtain⟨u,hu,h⟩:=jp.mp h;cases a:u.2.2.1.isEmpty with
 |false=>rw[a]at h;simp_all
 |true=>rw[a]at h;obtain⟨x,b,rfl⟩:=dq.mp h;obtain⟨q,c⟩:=x9 b;exact⟨q,_,by rw[yc hu,c,iJ a]⟩
theorem sW (h:wZ e=Z9 v):∃b c,e=.Call (.Attribute v.1 v.2.1 b) v.2.2.1 [] c/\v.2.2.2=(b.endLine==c.line):=by
 obtain⟨u,hu,h⟩:=jp.mp h;cases a:u.2.2.1.isEmpty with
 |false=>rw[a]at h;simp_all
 |true=>rw[a]at h;obtain⟨x,d,rfl⟩:=dq.mp h;exact⟨_,_,by rw[yc hu,Ed d,iJ a],rfl⟩
theorem jJ (h:kW f e=Z7):∃x p,e=.Name x p/\f x=true:=by obtain⟨x,a,h⟩:=aS h;obtain⟨p,b⟩:=x9 a;exact⟨x,p,b,h⟩
def Q3 (K:Z5)(mg:Str->Option Value)(c C:Str)(b:Bool):Prop:=∃A v u,mg c=Z9 (.ref A)/\XA K A/\XV K u/\Z4 K (.ref A) u=Z9 b/\RelV v u/\(∀w,RelV v w->w=u)/\(mg C=Z9 u\/(mg C=Z8/\eh C=Z9 u/\C≠"__name__"))
def Eg (K:Z5)(mg:Str->Option Value)(c:Str):Prop:=∃C,mg c=Z9 (.ref C)/\x4 K C=Z7
def Q4 (K:Z5)(mg:Str->Option Value)(c B:Str):Prop:=∃C D,mg c=Z9 (.ref C)/\mg B=Z9 (.ref D)/\kK K C=Z7/\kK K D=Z7/\Z4 K (.ref C) (.ref D)=Z9 Z7
structure vH (Γ:Gm)(K:Z5)(mg:Str->Option Value):Prop where
 sub:∀c C b,Γ.sub.contains (c,C,b)=Z7->Q3 K mg c C b
 rs:∀c,Γ.rs.contains c=Z7->Eg K mg c
 lR:∀c B,Γ.lR.contains (c,B)=Z7->Q4 K mg c B
structure Cok (Γ:Gm)(Κ:List D)(Φ:List Fn)(X:Cx)(r:Nat):Prop where
 hN:X.N=Γ.N
 hs:X.env.scope=Γ.sc
 nd:Γ.N.Nodup
 fn:Γ.blk=Z6->∀x,X.fn x=Z7
 kind:Γ.sc.kind=.function
 free:∀x,Γ.free.contains x=Z7->X.mg x=Z8
 fns:∀(j:Nat) f n,Γ.fns[j]?=Z9 (f,n)->∃m k ps,Φ[j]?=Z9 m/\k<=r/\Cal X.prog X.w X.K X.mg X.base k f ps (spD X.K n m)
 cst:∀(j:Nat) x,Γ.cst[j]?=Z9 x->∃d v u,Κ[j]?=Z9 d/\X.mg x=Z9 u/\RelV v u/\∀H B,B Z8->Rep X.K H B v d
 mH:∀(j:Nat) f n,Γ.fns[j]?=Z9 (f,n)->∃m k ps,Φ[j]?=Z9 m/\k<=r/\CalX X.prog X.w X.K X.mg X.base k f ps n m
 room:Γ.cm=Z7->Room r X.A
 calm:Γ.cm=Z7->X.calm=Z7
 hu:X.A.units+64<cLine
 pI:Γ.blk=Z6->X.stack=X.env::X.outer/\X.env.frame=Z9 X.env.locals
 Eh:Γ.xc=Z8->X.fx=Z8
 xc:∀n c,Γ.xc=Z9 (n,c)->∃a oe C,X.fx=Z9 (n,.ref a)/\Xh X a oe/\oe.cls=.ref C/\X.mg c=Z9 (.ref C)
 xk:vH Γ X.K X.mg
section
variable {Γ:Gm}{Κ:List D}{Φ:List Fn}{X:Cx}{r:Nat}
theorem Cok.gl (k:Cok a Κ Φ X r)(h:oN a x=Z7):Gl X x/\VI x:=by unfold oN at h;rw[a6]at h;refine⟨?_,by simpa using h.2⟩;show X.env.scope.names.lookup x=_;rw[k.hs];simpa using h.1
theorem Cok.aK (k:Cok b Κ Φ X r)(h:hP b i x=Z7):X.N[i]?=Z9 x/\Vis X.env.scope x/\VI x/\(x==("__classdict__":Str))=false:=by
 unfold hP at h;simp at h;have⟨⟨⟨h1,a⟩,h3⟩,h4⟩:=h;refine⟨by rw[k.hN];exact h1,?_,by simpa using h3,by simpa using h4⟩;rw[k.hs];rcases a with(a|a)|a
 .exact .inl a
 .exact .inr (.inl a)
 .exact .inr (.inr a)
theorem Cok.loc (k:Cok b Κ Φ X r)(h:lS b i x=Z7):X.N[i]?=Z9 x/\Loc X.env.scope x/\(X.fn x=Z7\/X.env.scope.names.lookup x=Z9 .local):=by
 unfold lS at h;simp at h;obtain⟨c,a⟩:=h;refine⟨by rw[k.hN];exact c,?_,?_⟩
 .unfold L2.Loc;rw[k.hs];rcases a with a|⟨_,a⟩
  .exact .inl a
  .exact .inr a
 .rcases a with a|⟨a,_⟩
  .exact .inr (k.hs▸a)
  .exact .inl (k.fn a x)
theorem Cok.blt (k:Cok a Κ Φ X r)(h:fD a x=Z7):Gl X x/\X.mg x=Z8/\VI x/\x≠"__name__":=by unfold fD at h;simp only[bj]at h;obtain⟨⟨b,c⟩,d⟩:=h;obtain⟨g1,g2⟩:=k.gl b;exact⟨g1,k.free x c,g2,by simpa using d⟩
theorem Q5 {C:Addr}:(blk X scope a C b s H).env.scope=Cq scope X.env.scope:=rfl
theorem Cok.blk (k:Cok a Κ Φ X r)(c:scope.kind=.function)(nd:b.Nodup)(C:Addr)(d:List Addr)(s:ak)(H:Hp):Cok {a with N:=b,sc:=Cq scope a.sc,blk:=Z7,xc:=Z8} Κ Φ (blk X scope b C d s H) r where
 hN:=rfl
 hs:=by rw[Q5,k.hs]
 nd:=nd
 fn:=λz=>by cases z
 kind:=c
 free:=k.free
 fns:=k.fns
 cst:=k.cst
 mH:=k.mH
 room:=k.room
 calm:=k.calm
 hu:=k.hu
 pI:=λz=>by cases z
 Eh:=λ_=>rfl
 xc:=λ_ _ z=>by cases z
 xk:=⟨k.xk.sub,k.xk.rs,k.xk.lR⟩
theorem Q6 (k:Cok a Κ Φ X r)(all:List Nat):∀{es:List Expr},Cw a is es=Z7->PGs X es (lW X.K all is)/\(io es X.env).length=is.length/\(io es X.env).findIdx? (·.1)=none:=by
 induction is with
 |nil=>intro es h;cases iJ h;exact⟨OQ,rfl,rfl⟩
 |cons i is b=>
  intro es h;cases es with
  |nil=>cases h
  |cons e es=>
   obtain⟨h0,c⟩:=aE h;obtain⟨x,p,rfl,h0⟩:=jJ h0;obtain⟨d,f,g⟩:=k.loc h0;obtain⟨a1,a2,a3⟩:=b c;refine⟨OR (k.hN▸k.nd) d f g a1,?_,?_⟩
   .show(io es X.env).length+1=_;rw[a2];rfl
   .show((Z6,tm (.Name x p) X.env)::io es X.env).findIdx? (·.1)=Z8;rw[List.findIdx?_cons,a3];rfl
theorem Ar (k:Cok b Κ Φ X r)(h:zp b t e=Z7):PG X e (tDG X.K t):=by
 cases t with
 |nm i=>obtain⟨x,p,rfl,a⟩:=jJ h;obtain⟨c,d,f⟩:=k.loc a;exact OP (k.hN▸k.nd) c d f
 |tp is=>obtain⟨h0,h⟩:=aE h;obtain⟨v,g,a⟩:=aS h;obtain⟨_,_,rfl⟩:=Ea g;obtain⟨a1,a2,a3⟩:=Q6 k is a;exact OS (k.calm h0) a1 rfl a3 a2.symm
theorem Jd (h:plainT e=Z7)(env:Env):∀a,qj e env a=(do let v <-a;ux e.pos;tz [v] (u1 v)):=by
 intro a;cases e<;>first|(cases h;done)|rfl|skip
 rename_i b x p;cases b<;>first|(cases h;done)|rfl
theorem Ei (h:zm e=Z7)(env:Env):∀x,gm e env x=pure x:=by intro x;cases e<;>first|(cases h;done)|rfl
end
variable (Κ:List D)(Φ:List Fn)
theorem Q7 (c:C):∀b es d f,dD b c es=Z7->dC Κ Φ c d=.ok f->f.length=es.length/\(es.all λe=>!isStar e)=true:=by
 induction c with
 |nil=>intro b es d f h e;cases iJ h;cases e;exact⟨rfl,rfl⟩
 |cons a r _ i=>
  intro b es d f h e;cases es with
  |nil=>cases h
  |cons x es=>obtain⟨j,_,k⟩:=cA h;obtain⟨y,_,e⟩:=Res.aA e;obtain⟨g,l,e⟩:=Res.aA e;cases e;obtain⟨m,n⟩:=i b es d g k l;exact⟨by rw[bo,bo,m],by rw[fg,n,j];rfl⟩
 |_=>exact λ_ _ _ _ h=>ff rfl h
end
section
theorem Q8 (h:tyB a T t=Z7):∃x p,t=.Name x p/\x=Str.ofString T/\fD a x=Z7/\T∈tysB:=by obtain⟨x,p,e,h⟩:=jJ h;obtain⟨b,c,d⟩:=cA h;exact⟨x,p,e,vt b,c,d7.mp d⟩
theorem Ej (h:(a||b)=Z7)(n:b=Z6):a=true:=by rw[n,Bool.or_false]at h;exact h
theorem Q9 (h:T∈tysB):eh (Str.ofString T)=Z9 (.type T):=by simp only[tysB,ay,iy,or_false]at h;rcases h with rfl|rfl|rfl|rfl|rfl<;>decide+kernel
variable (Κ:List D)(Φ:List Fn)
theorem pJ:∀{c:C} {es:List Expr},dD g c es=Z7->(es.all λe=>!isStar e)=true:=by
 intro c
 induction c with
 |nil=>intro es h;cases iJ h;rfl
 |cons a r _ b=>
  intro es h;cases es with
  |nil=>rfl
  |cons e es=>obtain⟨d,_,f⟩:=cA h;rw[fg,b f,d];rfl
 |_=>exact λh=>ff rfl h
theorem vI (h:dD d c es=Z7):∀b a,dC Κ Φ c b=.ok a->a.length=es.length:=λb a e=>(Q7 Κ Φ c d es b a h e).1
structure Sd (c:C):Prop where
 E:∀(Γ:Gm) (X:Cx) (r:Nat) (e:Expr),Cok Γ Κ Φ X r->chkE Γ c e=Z7->PE X e (tD X.K (aG Κ Φ c))
 T:∀(Γ:Gm) (X:Cx) (r:Nat) (e:Expr),Cok Γ Κ Φ X r->dZ Γ c e=Z7->PT X e (eA X.K (dN Κ Φ c))/\((∃o l p,e=.BoolOp o l p)->PW X e (eA X.K (dN Κ Φ c)))
 Q:∀(Γ:Gm) (X:Cx) (r:Nat) (l:Expr) (ops:List CmpOp) (rs:List Expr) (pos:Pos),Cok Γ Κ Φ X r->chkE Γ c (.Compare l ops rs pos)=Z7->PT X (.Compare l ops rs pos) (eA X.K λρ=>aG Κ Φ c ρ>>=λx=>iQ x.2)
 A:∀(Γ:Gm) (X:Cx) (r:Nat) (es:List Expr),Cok Γ Κ Φ X r->dD Γ c es=Z7->PA X es (tDA X.K (dC Κ Φ c))
 O:∀(Γ:Gm) (X:Cx) (r:Nat) (e:Option Expr),Cok Γ Κ Φ X r->oQ Γ c e=Z7->PO X e (tDO X.K (rT Κ Φ c))
 W:∀(Γ:Gm) (X:Cx) (r:Nat) (e tg:Expr),Cok Γ Κ Φ X r->CA c tg=Z7->oR Γ c e=Z7->PI X tg e (tDW X.K (evW Κ Φ c))
 G:∀(Γ:Gm) (X:Cx) (r:Nat) (e:Expr),Cok Γ Κ Φ X r->rZ Γ c e=Z7->∃a,c=.tv a/\PE X e (tD X.K (aG Κ Φ a))
def qR:C->Nat
 |.and _ _|.or _ _|.not _|.tv _|.nil|.cons _ _|.iH _=>2
 |.cmp _ _ _|.chain _ _ _ _ _=>1
 |_=>0
variable {Κ:List D}{Φ:List Fn}{a b c:C}
section
variable {Γ:Gm}{e tg:Expr}{es:List Expr}{o:Option Expr}
theorem Ra (h:qR c<2):dZ Γ c e=false:=by cases c<;>first|rfl|exact absurd h (cj 2)
theorem Rb (h:qR c<2):dD Γ c es=false:=by cases c<;>first|rfl|exact absurd h (cj 2)
theorem Rc (h:qR c<2):oQ Γ c o=false:=by cases c<;>first|rfl|exact absurd h (cj 2)
theorem Rf (h:qR c<2):oR Γ c e=false:=by cases c<;>first|rfl|exact absurd h (cj 2)
theorem Rg (h:qR c<2):rZ Γ c e=false:=by cases c<;>first|rfl|exact absurd h (cj 2)
end
theorem Sd.q (f:∀a X r e,Cok a Κ Φ X r->chkE a c e=Z7->PE X e (tD X.K (aG Κ Φ c)))(g:∀a X r l b rs pos,Cok a Κ Φ X r->chkE a c (.Compare l b rs pos)=Z7->PT X (.Compare l b rs pos) (eA X.K λρ=>aG Κ Φ c ρ>>=λx=>iQ x.2))(d:qR c<2):Sd Κ Φ c:=⟨f,λ_ _ _ _ _ h=>ff (Ra d) h,g,λ_ _ _ _ _ h=>ff (Rb d) h,λ_ _ _ _ _ h=>ff (Rc d) h,λ_ _ _ _ _ _ _ h=>ff (Rf d) h,λ_ _ _ _ _ h=>ff (Rg d) h⟩
theorem Rh (h:qR c=0):chkE Γ c (.Compare l ops rs pos)=false:=by cases c<;>first|rfl|(cases h;done)
theorem Sd.x (b:∀Γ X r e,Cok Γ Κ Φ X r->chkE Γ c e=Z7->PE X e (tD X.K (aG Κ Φ c)))(a:qR c=0):Sd Κ Φ c:=Sd.q b (λ_ _ _ _ _ _ _ _ h=>ff (Rh a) h) (a▸Nat.zero_lt_two)
theorem Ri:Sd Κ Φ (.var i):=Sd.x (λf X r e k h=>by obtain⟨x,p,rfl,h⟩:=jJ h;obtain⟨a,b,c,d⟩:=k.aK h;exact Oa a b c d) rfl
theorem Rj:Sd Κ Φ .bU:=Sd.x (λa X r e k h=>by obtain⟨_,_,rfl⟩:=ya (vp h);exact zw LQ λ_ _=>rfl) rfl
theorem Ek {b:Bool}:Sd Κ Φ (.bl b):=Sd.x (λa X r e k h=>by obtain⟨_,_,rfl⟩:=ya (vp h);exact zw LP λ_ _=>rfl) rfl
theorem Rk {b:Int}:Sd Κ Φ (.int b):=Sd.x (λa X r e k h=>by obtain⟨_,_,rfl⟩:=ya (vp h);exact zw LO λ_ _=>rfl) rfl
theorem Ro {b:Str}:Sd Κ Φ (.str b):=Sd.x (λd X r e k h=>by obtain⟨a,c⟩:=aE h;obtain⟨_,_,rfl⟩:=ya (vp a);exact zw Gw λ_ _=>⟨rfl,c⟩) rfl
theorem Rp:Sd Κ Φ (.glob j x):=Sd.x (λΓ X r e k h=>by
 obtain⟨y,p,rfl,h9⟩:=jJ h;obtain⟨h1,h2,h3⟩:=cA h9;cases vt h1;obtain⟨g1,g2⟩:=k.gl h2;obtain⟨d,v,u,c1,c2,c4,c3⟩:=k.cst j _ (vt h3);cases hi:imm d with
 |true=>
  refine PE.imp (Ob g1 c2 c4 g2 hi c3) λσ H Q hq=>?_
  have ee:aG Κ Φ (.glob j x)=λ_=>.ok (.fr,d):=by
   funext ρ
   show(match Κ[j]? with|some d=>if imm d=Z7 then Res.ok (G.fr,d)else .no|none=>.no)=_;rw[c1];show(if imm d=Z7 then Res.ok (G.fr,d)else .no)=_;rw[hi];rfl
  rw[ee]at hq;exact hq
 |false=>intro pins s σ H Q I zz;obtain⟨ρ,F,z,so,e,q⟩:=zz;have e:(match Κ[j]? with|some d=>if imm d=Z7 then Res.ok (G.fr,d)else .no|none=>.no)=.ok z:=e;rw[c1]at e;have e:(if imm d=Z7 then Res.ok (G.fr,d)else .no)=.ok z:=e;rw[hi]at e;cases e) rfl
theorem Rq (d:Sd Κ Φ a)(f:Sd Κ Φ b):Sd Κ Φ (.bin o a b):=Sd.x (λc X r e k h=>by obtain⟨v,g,i⟩:=aS h;obtain⟨p,rfl⟩:=QZ g;obtain⟨j,l,m,n⟩:=cZ i;cases vp j;exact Oc l (d.E c X r _ k m) (f.E c X r _ k n)) rfl
theorem Je (h:chkE Γ (.cmp op a b) e=Z7):∃l r p,e=.Compare l [op] [r] p/\z3f op=Z7/\km op r=Z6/\chkE Γ a l=Z7/\chkE Γ b r=true:=by obtain⟨⟨l,o,rs⟩,hv,h9⟩:=aS h;obtain⟨p,rfl⟩:=yb hv;obtain⟨h1,h2⟩:=aE h9;obtain⟨r,hr,h3⟩:=aS h2;cases vp h1;cases pH hr;obtain⟨h2,h3,h4,h5⟩:=cZ h3;exact⟨l,r,p,rfl,h2,gS h3,h4,h5⟩
theorem Rr (j:Sd Κ Φ a)(m:Sd Κ Φ b):Sd Κ Φ (.cmp s a b):=Sd.q (λc X r e k h=>by
 obtain⟨_,_,_,rfl,d,f,g,i⟩:=Je h;exact zru k.hu d f (j.E c X r _ k g) (m.E c X r _ k i)) (λc X r l n rs p k h=>by
 obtain⟨_,_,_,o,d,f,g,i⟩:=Je h;cases o;exact zs3 k.hu d f (j.E c X r _ k g) (m.E c X r _ k i)) Nat.one_lt_two
theorem Cj (h:chkE Γ (.chain f d a b c) e=Z7):∃l m r p,e=.Compare l [f,d] [m,r] p/\z3f f=Z7/\z3f d=Z7/\o7 [f,d] [m,r]=Z6/\chkE Γ a l=Z7/\chkE Γ b m=Z7/\chkE Γ c r=true:=by obtain⟨⟨l,o,rs⟩,k,n⟩:=aS h;obtain⟨p,rfl⟩:=yb k;obtain⟨q,g⟩:=aE n;obtain⟨r,s,i⟩:=aS g;cases vp q;cases Ef s;obtain⟨g,i,t,u,j⟩:=dA i;obtain⟨j,v⟩:=aE j;exact⟨l,r.1,r.2,p,rfl,g,i,gS t,u,j,v⟩
theorem Rt (n:Sd Κ Φ a)(o:Sd Κ Φ b)(s:Sd Κ Φ c):Sd Κ Φ (.chain w t a b c):=Sd.q (λΓ X r e k h=>by
 obtain⟨_,_,_,_,rfl,d,f,g,i,j,m⟩:=Cj h;exact zmc k.hu d f g (n.E Γ X r _ k i) (o.E Γ X r _ k j) (s.E Γ X r _ k m)) (λΓ X r l u rs p k h=>by
 obtain⟨_,_,_,_,v,d,f,g,i,j,m⟩:=Cj h;cases v;exact zl1 k.hu d f g (n.E Γ X r _ k i) (o.E Γ X r _ k j) (s.E Γ X r _ k m)) Nat.one_lt_two
theorem As (h:w4 f g o p xs=Z7):(∃x y,xs=[x,y]/\f x=Z7/\g y=Z7)\/∃x y z r,xs=x::y::z::r/\f x=Z7/\g (.BoolOp o (y::z::r) p)=true:=by
 rcases xs with _|⟨x,_|⟨y,_|⟨z,xs⟩⟩⟩
 .cases h
 .cases h
 .exact .inl ⟨x,y,rfl,(aE h).1,(aE h).2⟩
 .exact .inr ⟨x,y,z,xs,rfl,(aE h).1,(aE h).2⟩
theorem Ru (g:Sd Κ Φ a)(i:Sd Κ Φ b):Sd Κ Φ (.and a b) where
 E:=λc X r e k h=>by
  obtain⟨⟨o,q,p⟩,j,l⟩:=aS h;cases pG j;obtain⟨m,n⟩:=aE l;cases vp m;rcases As n with⟨x,y,rfl,d,f⟩|⟨x,y,z,t,rfl,d,f⟩
  .exact Hu (g.E c X r _ k d) (Gy (i.E c X r _ k f))
  .exact Hu (g.E c X r _ k d) (i.E c X r _ k f)
 T:=λc X r e k h=>by
  obtain⟨⟨o,q,p⟩,j,l⟩:=aS h;cases pG j;obtain⟨m,n⟩:=aE l;cases vp m;rcases As n with⟨x,y,rfl,d,f⟩|⟨x,y,z,t,rfl,d,f⟩
  .have w:=w_and (pos:=p) (g.T c X r _ k d).1 (LX (i.T c X r _ k f).1);exact⟨w.pt,λ_=>w⟩
  .have w:=w_and (g.T c X r _ k d).1 ((i.T c X r _ k f).2 ⟨_,_,_,rfl⟩);exact⟨w.pt,λ_=>w⟩
 Q:=λ_ _ _ _ _ _ _ _ h=>ff rfl h
 A:=λ_ _ _ _ _ h=>ff rfl h
 O:=λ_ _ _ _ _ h=>ff rfl h
 W:=λ_ _ _ _ _ _ _ h=>ff rfl h
 G:=λ_ _ _ _ _ h=>ff rfl h
theorem El (g:Sd Κ Φ a)(i:Sd Κ Φ b):Sd Κ Φ (.or a b) where
 E:=λc X r e k h=>by
  obtain⟨⟨o,q,p⟩,j,l⟩:=aS h;cases pG j;obtain⟨m,n⟩:=aE l;cases vp m;rcases As n with⟨x,y,rfl,d,f⟩|⟨x,y,z,t,rfl,d,f⟩
  .exact xm (g.E c X r _ k d) (Gy (i.E c X r _ k f))
  .exact xm (g.E c X r _ k d) (i.E c X r _ k f)
 T:=λc X r e k h=>by
  obtain⟨⟨o,q,p⟩,j,l⟩:=aS h;cases pG j;obtain⟨m,n⟩:=aE l;cases vp m;rcases As n with⟨x,y,rfl,d,f⟩|⟨x,y,z,t,rfl,d,f⟩
  .have w:=w_or (pos:=p) (g.T c X r _ k d).1 (LY (i.T c X r _ k f).1);exact⟨w.pt,λ_=>w⟩
  .have w:=w_or (g.T c X r _ k d).1 ((i.T c X r _ k f).2 ⟨_,_,_,rfl⟩);exact⟨w.pt,λ_=>w⟩
 Q:=λ_ _ _ _ _ _ _ _ h=>ff rfl h
 A:=λ_ _ _ _ _ h=>ff rfl h
 O:=λ_ _ _ _ _ h=>ff rfl h
 W:=λ_ _ _ _ _ _ _ h=>ff rfl h
 G:=λ_ _ _ _ _ h=>ff rfl h
theorem Rv (i:Sd Κ Φ a):Sd Κ Φ (.not a) where
 E:=λb X r e k h=>by obtain⟨⟨o,x⟩,c,d⟩:=aS h;obtain⟨p,rfl⟩:=sV c;obtain⟨f,g⟩:=aE d;cases vp f;exact Og (i.E b X r _ k g)
 T:=λb X r e k h=>by obtain⟨⟨o,x⟩,c,d⟩:=aS h;obtain⟨p,rfl⟩:=sV c;obtain⟨f,g⟩:=aE d;cases vp f;exact⟨qH (i.T b X r _ k g).1,λ⟨_,_,_,z⟩=>by cases z⟩
 Q:=λ_ _ _ _ _ _ _ _ h=>ff rfl h
 A:=λ_ _ _ _ _ h=>ff rfl h
 O:=λ_ _ _ _ _ h=>ff rfl h
 W:=λ_ _ _ _ _ _ _ h=>ff rfl h
 G:=λ_ _ _ _ _ h=>ff rfl h
theorem Jf (h:Hf e=Z7):∃l o r p,e=.Compare l o r p:=by cases e<;>first|exact ff rfl h|exact⟨_,_,_,_,rfl⟩
theorem Em (d:Sd Κ Φ a):Sd Κ Φ (.tv a) where
 E:=λ_ _ _ _ _ h=>ff rfl h
 T:=λb X r e k h=>by
  obtain⟨c,f⟩:=aE h;rcases gf.mp c with c|c
  .exact⟨Oh (d.E b X r _ k f) (Jd c _),λ⟨_,_,_,z⟩=>by subst z;cases c⟩
  .obtain⟨_,_,_,_,rfl⟩:=Jf c;exact⟨d.Q b X r _ _ _ _ k f,λ⟨_,_,_,z⟩=>by cases z⟩
 Q:=λ_ _ _ _ _ _ _ _ h=>ff rfl h
 A:=λ_ _ _ _ _ h=>ff rfl h
 O:=λb X r e k h=>by obtain⟨v,rfl,h⟩:=aS h;exact OE (d.E b X r _ k h)
 W:=λb X r e g k _ h=>dE (d.E b X r _ k (aE h).2)
 G:=λb X r e k h=>⟨a,rfl,d.E b X r _ k h⟩
theorem Rw (f:Sd Κ Φ c)(g:Sd Κ Φ a)(i:Sd Κ Φ b):Sd Κ Φ (.rR c a b):=Sd.x (λd X r e k h=>by obtain⟨v,j,l⟩:=aS h;obtain⟨p,rfl⟩:=Q0 j;obtain⟨m,n,o⟩:=cA l;exact Oi (f.T d X r _ k m).1 (g.E d X r _ k n) (i.E d X r _ k o)) rfl
theorem Rx (c:Sd Κ Φ a):Sd Κ Φ (.tup a):=Sd.x (λd X r e k h=>by obtain⟨v,f,g⟩:=aS h;obtain⟨_,_,rfl⟩:=Ea f;obtain⟨i,b⟩:=aE g;exact Om (c.A d X r _ k b) λj l e=>by rw[vI Κ Φ b j l e];exact Hd (vp i)) rfl
theorem Ry (c:Sd Κ Φ a):Sd Κ Φ (.lst a):=Sd.x (λd X r e k h=>by obtain⟨v,f,g⟩:=aS h;obtain⟨_,rfl⟩:=Q1 f;obtain⟨i,b⟩:=aE g;exact Oq (c.A d X r _ k b) λj l e=>by rw[vI Κ Φ b j l e];exact Hd (vp i)) rfl
theorem RA:Sd Κ Φ .iP:=Sd.x (λi X r e k h=>by obtain⟨⟨a,b⟩,c,d⟩:=aS h;obtain⟨_,rfl⟩:=Eb c;obtain⟨f,g⟩:=aE d;cases iJ f;cases iJ g;exact Ot) rfl
theorem En (d:Sd Κ Φ a)(f:Sd Κ Φ b):Sd Κ Φ (.ix a b):=Sd.x (λc X r e k h=>by obtain⟨v,g,i⟩:=aS h;obtain⟨_,rfl⟩:=Ec g;obtain⟨j,l,m⟩:=cA i;exact d_ix k.hu j (d.E c X r _ k l) (f.E c X r _ k m)) rfl
theorem Eo {c:C}(d:Sd Κ Φ a)(f:Sd Κ Φ c)(g:Sd Κ Φ j):Sd Κ Φ (.sl a c j):=Sd.x (λb X r e k h=>by obtain⟨⟨x,i⟩,m,n⟩:=aS h;obtain⟨_,rfl⟩:=Ec m;obtain⟨⟨l,u,s⟩,hs,o⟩:=aS n;obtain⟨_,rfl⟩:=Q2 hs;obtain⟨p,q,t,v⟩:=cZ o;cases kh.mp p;exact d_sl (d.E b X r _ k q) (f.O b X r _ k t) (g.O b X r _ k v)) rfl
theorem RB (i:Sd Κ Φ args):Sd Κ Φ (.call j f args):=Sd.x (λl X r e k h=>by
 obtain⟨⟨x,es⟩,n,o⟩:=aS h;obtain⟨_,_,rfl⟩:=lB n;obtain⟨a,p,q,b,s⟩:=dA o;obtain⟨y,es,rfl⟩:=vG s;obtain⟨h0,a⟩:=aE a;cases vt a;obtain⟨g1,g2⟩:=k.gl p;obtain⟨m,kk,ps,t,u,v⟩:=k.fns j _ _ (vt q);refine PE.imp (zpa v (k.room h0) u (i.A l X r _ k b) (pJ b) g1 g2 (vI Κ Φ b)) λz H Q g=>?_
 have w:aG Κ Φ (.call j x args)=λc=>dC Κ Φ args c>>=λd=>m (d.map (·.2))>>=λr=>.ok (gJ r.2 (jD r.1),r.2):=by
  funext c
  show(dC Κ Φ args c>>=λd=>match Φ[j]? with|some m=>m (d.map (·.2))>>=λr=>.ok (gJ r.2 (jD r.1),r.2)|none=>.no)=_;rw[t]
 rw[w]at g;exact g) rfl
theorem Ep {f:String}{args:C}(ia:Sd Κ Φ args):Sd Κ Φ (.bi f args):=Sd.x (λΓ X r e k h=>by
 obtain⟨⟨x,es⟩,hv,h9⟩:=aS h;obtain⟨_,_,rfl⟩:=lB hv;obtain⟨h1,h2,h3,h4,h5⟩:=dA h9;obtain⟨y,es,rfl⟩:=vG h5;have h1:=vt h1;obtain⟨g1,g2,g3,g4⟩:=k.blt h2;obtain⟨h3,gR⟩:=aE h3;have hf:f∈["len","max"]:=d7.mp h3;have ha:=ia.A Γ X r _ k h4;simp only[ay,iy,or_false]at hf;rcases hf with rfl|rfl
 .exact d_cB OF g2 (by rw[h1];decide+kernel) ha (pJ h4) g1 g4 g3
 .exact d_cB (OG (k.calm (Ej gR rfl))) g2 (by rw[h1];decide+kernel) ha (pJ h4) g1 g4 g3) rfl
theorem RC {f:String}(ia:Sd Κ Φ a):Sd Κ Φ (.fB f a):=Sd.x (λΓ X r e k h=>by
 obtain⟨⟨x,es⟩,hv,h9⟩:=aS h;obtain⟨_,_,rfl⟩:=lB hv;obtain⟨h1,h2,h3,h4⟩:=cZ h9;obtain⟨y,hy,k5⟩:=aS h4;obtain⟨k4,k6⟩:=aE k5;cases pH hy;have k1:=vt h1;obtain⟨g1,g2,g3,g4⟩:=k.blt h2;obtain⟨a,rfl,ha⟩:=ia.G Γ X r _ k k6;have k7:=gS k4;obtain⟨h3,gR⟩:=aE h3;have hf:f∈rY:=d7.mp h3;simp only[rY,ay,iy,or_false]at hf;rcases hf with rfl|rfl|rfl|rfl|rfl|rfl
 .exact zbs O' g2 (by rw[k1];decide+kernel) k7 ha g1 g4 g3
 .exact zbs Pa g2 (by rw[k1];decide+kernel) k7 ha g1 g4 g3
 .exact zdi (Qk k.hu) g2 (by rw[k1];decide+kernel) k7 ha g1 g4 g3
 .exact zdi (Pc (k.calm gR)) g2 (by rw[k1];decide+kernel) k7 ha g1 g4 g3
 .exact zdi (Qa (k.calm gR)) g2 (by rw[k1];decide+kernel) k7 ha g1 g4 g3
 .exact zbs (Pr (k.calm gR)) g2 (by rw[k1];decide+kernel) k7 ha g1 g4 g3) rfl
theorem RD (c:Sd Κ Φ a):Sd Κ Φ (.nH a ts):=Sd.x (λd X r e k h=>by obtain⟨⟨x,es⟩,f,g⟩:=aS h;obtain⟨_,_,rfl⟩:=lB f;obtain⟨i,j,l⟩:=cA g;obtain⟨⟨y,t⟩,m,n⟩:=aS l;obtain⟨o,p,q⟩:=cA n;obtain⟨T,s,u⟩:=aS q;cases Ef m;cases pH s;cases vt i;obtain⟨g1,g2,g3,C⟩:=k.blt j;obtain⟨D,F,rfl,rfl,v,b⟩:=Q8 u;obtain⟨w,z,A,B⟩:=k.blt v;exact ztb g2 g1 z (Q9 b) w B A b (gS o) (c.E d X r _ k p)) rfl
theorem Er (f:Sd Κ Φ a)(g:Sd Κ Φ args):Sd Κ Φ (.mt m a args):=Sd.x (λc X r e k h=>by
 obtain⟨⟨x,n,i,b⟩,j,l⟩:=aS h;obtain⟨w,z,rfl,hb⟩:=sW j;obtain⟨h0,o,d,p⟩:=cZ l;obtain⟨q,s,t,u,v⟩:=dA h0;obtain⟨y,i,rfl⟩:=vG p;cases vt q;have hm:=d7.mp s;simp at hm;rcases hm with rfl
 .exact d_mt PySem.F.plainAttrs_dict PySem.F.slot_dict_get PySem.F.type_dict_get (OX k.hu) (λ_ _ _ _ _ _ r e=>OY r e) (f.E c X r _ k o) (g.A c X r _ k d) t (pJ d) (vp v) (hb.symm.trans u)) rfl
theorem RE (ic:Sd Κ Φ c)(k:Cok Γ Κ Φ X n)(h:xb (xd c) (λt=>dZ Γ c t) ifs=Z7):qC X ifs (eA X.K (dN Κ Φ c)):=by
 cases ifs with
 |nil=>
  have:c=.nil:=by cases c<;>first|exact ff rfl h|rfl
  subst this;refine λpins s σ H Q I q=>Nr pins s σ H Q I ?_;obtain⟨ρ,F,b,so,e,q⟩:=q;cases e;exact q H (Same.refl H)
 |cons t r=>obtain⟨h1,h2⟩:=aE h;cases iJ h1;exact Nt (ic.T Γ X n t k h2).1
theorem sC {c:C}(w:Sd Κ Φ it)(y:Sd Κ Φ c)(z:Sd Κ Φ f)(k:Cok l Κ Φ X r)(h:chkE l (.comp p A j q it c f) e=Z7):
  ∃el t i d a pos,e=.ListComp el [⟨t,i,d,0⟩] a pos/\BlkScope X a j p A/\(∀i∈tgIx q,i<p)/\PI X t i (tDW X.K (evW Κ Φ it))/\(∀C b s H,PG (blk X a j C b s H) t (tDG X.K q))/\(∀C b s H,qC (blk X a j C b s H) d (eA X.K (dN Κ Φ c)))/\(∀C b s H,PE (blk X a j C b s H) el (tD X.K (aG Κ Φ f)))/\(∀x,gm i X.env x=pure x)/\l.cm=true:=by
 obtain⟨⟨el,O,a⟩,B,g⟩:=aS h;obtain⟨pos,rfl⟩:=Ee B;obtain⟨⟨t,i,d,kk⟩,D,g⟩:=aS g;cases pH D;obtain⟨h0,u,F,G,g⟩:=dA g;obtain⟨m,I,J,L,M⟩:=dA h0;obtain⟨n,m⟩:=aE m;cases vt m;have v:=Nn k.hN k.hs J;have o:=λC b s H=>k.blk v.kind (vp M) C b s H;exact⟨el,t,i,d,a,pos,rfl,v,λi N=>vp ((bb.mp I) i N),w.W l X r _ t k (aE u).2 F,λC b s H=>Ar (o C b s H) (aE u).1,λC b s H=>RE y (o C b s H) G,λC b s H=>z.E _ _ r _ (o C b s H) g,Ei L _,n⟩
theorem RF {cond:C}(ii:Sd Κ Φ it)(ic:Sd Κ Φ cond)(ie:Sd Κ Φ elt):Sd Κ Φ (.comp nt js N' tg it cond elt):=Sd.x (λΓ X r e k h=>by obtain⟨el,t,i,ifs,scope,pos,rfl,hB,h2,hi,hg,ht,he,hs,gR⟩:=sC ii ic ie k h;exact(zia (k.calm gR) hB h2 hi hg ht he hs).1) rfl
theorem RH (h:((wZ e).any λm=>kW (hP f i) m.1&&(m.2.1==("items":Str))&&m.2.2.1.isEmpty&&m.2.2.2)=Z7):∃x p a c,e=.Call (.Attribute (.Name x p) "items" a) [] [] c/\hP f i x=Z7/\(a.endLine==c.line)=true:=by obtain⟨⟨x,n,es,b⟩,g,j⟩:=aS h;obtain⟨a,c,rfl,hb⟩:=sW g;obtain⟨d,k,l,o⟩:=cZ j;obtain⟨y,p,rfl,d⟩:=jJ d;cases vt k;cases iJ l;exact⟨y,p,a,c,rfl,d,hb.symm.trans o⟩
theorem RI:Sd Κ Φ (.sortI i):=Sd.x (λz X r e k h=>by obtain⟨⟨x,es⟩,c,d⟩:=aS h;obtain⟨_,_,rfl⟩:=lB c;obtain⟨a,f,g⟩:=cA d;obtain⟨y,j,l⟩:=aS g;cases pH j;obtain⟨A,B,C,D,rfl,m,n⟩:=RH l;obtain⟨b,a⟩:=aE a;cases vt a;obtain⟨o,p,q,s⟩:=k.blt f;obtain⟨t,u,v,w⟩:=k.aK m;exact zlc (k.calm b) p (by show eh ("sorted":Str)=_;decide+kernel) o s q t u v w n) rfl
theorem RJ {b:Bool}:Sd Κ Φ (.gW b x):=Sd.x (λP X r e k h=>by obtain⟨⟨f,es⟩,j,l⟩:=aS h;obtain⟨_,_,rfl⟩:=lB j;obtain⟨m,o,p⟩:=cA l;obtain⟨⟨Q,R⟩,q,s⟩:=aS p;cases Ef q;obtain⟨⟨n,c⟩,t,w⟩:=aS s;obtain⟨d,g⟩:=aE w;obtain⟨S,T,hn,d⟩:=jJ d;obtain⟨C,U,y,g⟩:=jJ g;cases hn;cases y;obtain⟨a1,a2,a3,a4⟩:=cZ d;obtain⟨z,B,D⟩:=cA g;cases vt m;cases vt a1;cases vt z;obtain⟨g1,g2,g3,V⟩:=k.blt o;obtain⟨E,F⟩:=k.gl B;obtain⟨a,W,Y,G,H,I,i⟩:=k.xc n c t;obtain⟨A,v,u,J,xa,K,L,M,N,O⟩:=k.xk.sub c x b D;rw[J]at i;cases i;exact zt3 g2 g1 G (k.hs▸vt a2) (gS a3) H I E O M N F xa K L) rfl
theorem RK:Sd Κ Φ .nil where
 E:=λ_ _ _ _ _ h=>ff rfl h
 T:=λ_ _ _ _ _ h=>ff rfl h
 Q:=λ_ _ _ _ _ _ _ _ h=>ff rfl h
 A:=λa X r b k h=>by cases iJ h;exact Oj
 O:=λa X r e k h=>by cases kh.mp h;exact uV
 W:=λ_ _ _ _ _ _ _ h=>ff rfl h
 G:=λ_ _ _ _ _ h=>ff rfl h
theorem RL (d:Sd Κ Φ a)(f:Sd Κ Φ b):Sd Κ Φ (.cons a b) where
 E:=λ_ _ _ _ _ h=>ff rfl h
 T:=λ_ _ _ _ _ h=>ff rfl h
 Q:=λ_ _ _ _ _ _ _ _ h=>ff rfl h
 A:=λc X r es k h=>by
  cases es with
  |nil=>cases h
  |cons e es=>obtain⟨g,i,j⟩:=cA h;exact Ol (gS g) (d.E c X r _ k i) (f.A c X r _ k j)
 O:=λ_ _ _ _ _ h=>ff rfl h
 W:=λ_ _ _ _ _ _ _ h=>ff rfl h
 G:=λ_ _ _ _ _ h=>ff rfl h
theorem RM (f:Sd Κ Φ a):Sd Κ Φ (.iH a) where
 E:=λ_ _ _ _ _ h=>ff rfl h
 T:=λ_ _ _ _ _ h=>ff rfl h
 Q:=λ_ _ _ _ _ _ _ _ h=>ff rfl h
 A:=λ_ _ _ _ _ h=>ff rfl h
 O:=λ_ _ _ _ _ h=>ff rfl h
 W:=λg X r e q k _ h=>by
  obtain⟨⟨x,d⟩,i,j⟩:=aS h;obtain⟨_,_,rfl⟩:=lB i;obtain⟨l,m,b,c⟩:=cZ j;obtain⟨c,n⟩:=aE c;cases vt l;obtain⟨o,p,s,t⟩:=k.blt m;rcases d with _|⟨x,_|⟨y,d⟩⟩
  .cases c
  .exact ON p o (gS ((bb.mp (pJ b)) x (.head _))) (f.A g X r _ k b) (vI Κ Φ b)
  .exact absurd (vp n) (Nat.not_le.mpr (Nat.succ_lt_succ (Nat.succ_pos _)))
 G:=λ_ _ _ _ _ h=>ff rfl h
theorem all (c:C):Sd Κ Φ c:=by
 induction c with
 |var=>exact Ri
 |bU=>exact Rj
 |bl=>exact Ek
 |int=>exact Rk
 |str=>exact Ro
 |glob=>exact Rp
 |bin _ _ _ ia ib=>exact Rq ia ib
 |cmp _ _ _ ia ib=>exact Rr ia ib
 |chain _ _ _ _ _ ia ib ic=>exact Rt ia ib ic
 |and _ _ ia ib=>exact Ru ia ib
 |or _ _ ia ib=>exact El ia ib
 |not _ ia=>exact Rv ia
 |rR _ _ _ ic ia ib=>exact Rw ic ia ib
 |tup _ ia=>exact Rx ia
 |lst _ ia=>exact Ry ia
 |iP=>exact RA
 |ix _ _ ia ib=>exact En ia ib
 |sl _ _ _ ia ib ic=>exact Eo ia ib ic
 |call _ _ _ ia=>exact RB ia
 |bi _ _ ia=>exact Ep ia
 |fB _ _ ia=>exact RC ia
 |nH _ _ ia=>exact RD ia
 |mt _ _ _ ia ib=>exact Er ia ib
 |comp _ _ _ _ _ _ _ ia ib ic=>exact RF ia ib ic
 |sortI=>exact RI
 |iH _ ia=>exact RM ia
 |tv _ ia=>exact Em ia
 |gW=>exact RJ
 |nil=>exact RK
 |cons _ _ ia ib=>exact RL ia ib
end
theorem zow (l:Addr)(xs:Array Value)(n:Nat)(b:Addr)(ys:Array Value)(m:Nat)(dd:Option Addr)(sl:Array (Option Value))(h0:¬(!xs.isEmpty&&kq (xs.size+ys.size))=Z7)(h1:xs.size<=bf)(h2:xs.size+ys.size<=bf+1):
  Meets (Builtin.«list.extend» ⟨[.ref l,.ref b],[]⟩) (λ_ R s=>s.heap.get? l=some {cls:=.type "list",dict:=none,data:=.seq xs n,slots:=#[]}/\s.heap.get? b=some {cls:=.type "list",dict:=dd,data:=.seq ys m,slots:=sl}/\R (.ok (.ret Value.none)) {s with heap:=s.heap.update l (Obj.mapSeq λx=>x++ys)}):=
 .of_wp λprog w A R s h=>by
  obtain⟨s1,s2,s3,s4,s5⟩:=s;obtain⟨g1,g2,fin⟩:=h;have k1:=AutoSeq1.sub_list_list;have k2:=AutoSeq1.sub_list_tuple;have z:(xs++ys).size<=bf+1:=by rw[ot];omega
  wp_walk using(wpAny_updateSeq g1 rfl (hz:=h1) (_hz':=z)),wpAny_loadPart' g1,wpAny_loadPart' g2
  exact⟨_,rfl,fin⟩
section
variable {X:Cx}
def RN (K:Z5):V->List V->Hp->VK->Prop:=λx vs H Q=>∃l b xs zs,x=.ref l/\vs=[.ref b]/\H l=Z9 (.lst xs)/\SqL K H b zs/\xs.length+zs.length<=bf/\Q .bU (upd H l (.lst (xs++zs)))
theorem RO:G4 X "list.extend" (RN X.K):=by
 intro pins s σ H x vs v us Q I rx rv h;obtain⟨l,b,xs,zs,rfl,rfl,hH,hB,hz,q⟩:=h;cases rx;obtain⟨u,rfl,ru⟩:=rv.one;cases ru;obtain⟨z,its,n,r,hl,e⟩:=I.oB hH;obtain⟨tE,r2,pl,z2⟩:=I.list hB;obtain⟨o2,n2,e2,c2,d2,t2⟩:=pl;obtain⟨Vp,Vq,Vr,Ja⟩:=o2;subst c2 d2 t2;have l2:=r2.length;have hz9z:its.toArray.size+tE.toArray.size<=bf:=by rw[bw,bw];omega
 have yd:¬(!its.toArray.isEmpty&&kq (its.toArray.size+tE.toArray.size))=true:=by rw[Nf hz9z,Bool.and_false];exact cv
 refine u7 PySem.F.slot_list_extend ⟨_,e,rfl⟩ PySem.F.entry_list_extend (PySem.F.args_list_extend_2 _ _) (zow l its.toArray n b tE.toArray n2 _ Ja yd (by omega) (by omega)) ⟨e,e2,?_⟩;refine⟨.bU,_,I.lset hH e (by simp) (r.append r2) ?_,rfl,q⟩;rw[ao];omega
theorem RP (h:rU xs ys=.ok uT):∃g zs,ys=[(g,.list zs)]/\okIn (g,.list zs)=Z7/\xs.length+zs.length<=bD/\uT=xs++zs:=by
 unfold rU at h;split at h
 .rename_i y;obtain⟨g,d⟩:=y
  dsimp only at h
  split at h
  .split at h
   .rename_i zs hc;rw[bj,decide_eq_true_iff]at hc;cases h;exact⟨g,_,rfl,hc.1,hc.2,rfl⟩
   .cases h
  .cases h
 .cases h
theorem zfy (hN:X.N[i]?=Z9 x)(hv:Vis X.env.scope x)(hd:VI x)(hcd:(x==("__classdict__":Str))=Z6)(ha:PA X (e::es) (tDA X.K fs))(hst:((e::es).all fun e=>!isStar e)=Z7)(hl:(e::es).length<20)(hline:(ap.endLine==cp.line)=Z7):
  PS X (.Expr (.Call (.Attribute (.Name x p) "extend" ap) (e::es) [] cp) pos) (tDS X.K (xp "extend" i fs)):=by
 have tF:=hst;rw[fg,a6]at tF;refine PS.imp (oF (zki PySem.F.plainAttrs_list PySem.F.slot_list_extend PySem.F.type_list_extend RO (rE hN hv hd hcd) ha rfl (zb9 hst hl) hline (jQ (by simpa using tF.1)) (oE tF.2)) rfl) λD σ H zz=>?_;obtain⟨ρ,F,out,so,e,q⟩:=zz;obtain⟨ys,e1,e⟩:=Res.aA e;split at e
 .rename_i xs hr;obtain⟨uT,e2,e⟩:=Res.aA e;cases e;obtain⟨pa,h1,hO,h⟩:=zC so hr;rcases h with⟨vs,ds,e3,e4,r⟩|⟨_,_,e3,_⟩
  .cases e3;refine⟨_,h1,.inl ⟨rfl,vs,SqL.of e4⟩,ρ,F,ys,so,e1,λus H1 s1 rs=>?_⟩;obtain⟨g,zs,rfl,hy,hlen,rfl⟩:=RP e2;obtain⟨u,rfl,ru⟩:=rs.one;have Ha:=r.length;obtain⟨b,ws,rfl,vC,rz⟩:=nN (xo so hy ru);have Vs:=rz.length;refine⟨pa,b,vs,ws,rfl,rfl,s1 _ _ e4,vC,lU (by omega),?_⟩;have r1:=r.same s1 λ_ z=>z;exact zk2 so s1 hO h1 e4 (Reps.append r1 rz) q
  .cases e3
 .cases e
end
section
variable (Κ:List D)(Φ:List Fn)
theorem Jg:l5 (.ListComp el a s p) (Z9 (.Name t px)) n env=pure (env.blockKind==.function&&env.kindOf t==Z9 .local&&px.line==p.line&& !(s.names.any λ(n,k)=>n==t&&(k==.local||k==.cell))):=rfl
theorem RQ (hn:sD c=Z6)(h:chkE i c (.ListComp el j s p)=Z7):∃d e f g it a b,c=.comp d e f g it a b:=by cases c<;>first|exact ff rfl h|exact⟨_,_,_,_,_,_,_,rfl⟩|(cases hn;done)
theorem RS (h:chkE a c (.SetComp el b s p)=Z7):False:=by cases c<;>exact ff rfl h
theorem RT (h:chkE b c (.DictComp el a d s p)=Z7):False:=by cases c<;>exact ff rfl h
theorem Es (k:Cok f Κ Φ X r)(F:lS f i x=Z7)(hn:sD c=Z6)(a:chkE f c v=Z7):PS X (.Assign [.Name x px] v pos) (tDS X.K λo=>aG Κ Φ c o>>=λx=>.ok (.nx (o.set i (Z9 (z1s x))))):=by
 obtain⟨h,l2,l3⟩:=k.loc F;have nd:X.N.Nodup:=k.hN▸k.nd;cases hc:z27 v with
 |false=>exact zop nd h l2 l3 (uN hc _ _ _) ((all c).E f X r _ k a)
 |true=>
  cases v<;>first|(cases hc;done)|skip
  .rename_i el L s p;cases g:(X.env.blockKind==.function&&X.env.kindOf x==Z9 .local&&px.line==p.line&& !(s.names.any λ(n,k)=>n==x&&(k==.local||k==.cell)))with
   |false=>exact zop nd h l2 l3 (by rw[Jg,g]) ((all c).E f X r _ k a)
   |true=>
    obtain⟨M,O,P,R,it,b,j,rfl⟩:=RQ hn a;obtain⟨G,t,S,I,l,u,e,w,h0,y,A,B,C,hs,d⟩:=sC (all it) (all b) (all j) k a;cases e;have J:X.env.scope.names.lookup x=Z9 .local:=by simp at g;exact g.1.1.2
    exact PS.imp (zgr (k.calm d) nd h J w y A B C (by rw[Jg,g]) hs) λD m H q=>HG (λm H Q z=>(zia (pos:=p) (k.calm d) w h0 y A B C hs).2 m H Q z) D m H q
  .exact(RS a).elim
  .exact(RT a).elim
theorem Jh {Γ:Gm}{X:Cx}{r:Nat}(k:Cok Γ Κ Φ X r){c:C}{ie tg:Expr}(hh:xf Γ c tg ie=Z7):PI X tg ie (tDF X.K (evF Κ Φ c))/\zm ie=true:=by
 obtain⟨ht,h⟩:=aE hh;have hw:=(all (Κ:=Κ) (Φ:=Φ) c).W Γ X r ie tg k ht h;cases c with
 |tv a=>
  have Ji:=PI.HJ (k:=λρ=>fS Κ Φ (.tv a) ρ) (Dc ((all a).E Γ X r _ k (aE h).2)) (HI hw);refine⟨?_,(aE h).1⟩;cases a with
  |var i=>obtain⟨x,p,rfl,h2⟩:=jJ (aE h).2;obtain⟨v1,v2,v3,v4⟩:=k.aK h2;exact PI.HJ (k:=λρ=>iS ρ i) (O8 v1 v2 v3 v4) Ji
  |_=>exact Ji
 |iH a=>refine⟨HI hw,?_⟩;obtain⟨v,hv,_⟩:=aS h;obtain⟨_,_,rfl⟩:=lB hv;rfl
 |_=>exact ff rfl h
theorem RU (h:isTup v=Z6):sj [.Tuple a b c] v env=pure none:=by cases v<;>first|rfl|(cases h;done)
theorem tG (h:CC s=Z9 v):∃p,s=.Assign v.1 v.2 p:=cB (q:=λv=>∃p,s=.Assign v.1 v.2 p) h (by cases s<;>first|exact .inl rfl|exact .inr ⟨_,rfl,_,rfl⟩)
theorem tH (h:CD s=Z9 v):∃p,s=.Expr v p:=cB (q:=λv=>∃p,s=.Expr v p) h (by cases s<;>first|exact .inl rfl|exact .inr ⟨_,rfl,_,rfl⟩)
theorem ye (h:Hj s=Z9 v):∃p,s=.Return v p:=cB (q:=λv=>∃p,s=.Return v p) h (by cases s<;>first|exact .inl rfl|exact .inr ⟨_,rfl,_,rfl⟩)
theorem yf (h:Hk s=Z9 v):∃p,s=.If v.1 v.2.1 v.2.2 p:=cB (q:=λv=>∃p,s=.If v.1 v.2.1 v.2.2 p) h (by cases s<;>first|exact .inl rfl|exact .inr ⟨_,rfl,_,rfl⟩)
theorem yg (h:Hl s=Z9 v):∃p,s=.For v.1 v.2.1 v.2.2.1 v.2.2.2 p:=cB (q:=λv=>∃p,s=.For v.1 v.2.1 v.2.2.1 v.2.2.2 p) h (by cases s<;>first|exact .inl rfl|exact .inr ⟨_,rfl,_,rfl⟩)
theorem Et (h:Hm s=Z9 v):∃p,s=.While v.1 v.2.1 v.2.2 p:=cB (q:=λv=>∃p,s=.While v.1 v.2.1 v.2.2 p) h (by cases s<;>first|exact .inl rfl|exact .inr ⟨_,rfl,_,rfl⟩)
structure Ss (s:S):Prop where
 R:∀(Γ:Gm) (X:Cx) (r:Nat) (st:Stmt),Cok Γ Κ Φ X r->g6 (model X.prog X.w) X.A X.env X.xe->kB Γ s st=Z7->PS X st (tDS X.K (aH Κ Φ s))
 L:∀(Γ:Gm) (X:Cx) (r:Nat) (st:List Stmt),Cok Γ Κ Φ X r->g6 (model X.prog X.w) X.A X.env X.xe->chkL Γ s st=Z7->PSs X st (tDS X.K (aH Κ Φ s))
def tI:S->Bool
 |.nil=>Z6
 |.seq _ _=>Z6
 |_=>Z7
variable {Κ:List D}{Φ:List Fn}
theorem Ss.x (h:∀Γ X r st,Cok Γ Κ Φ X r->g6 (model X.prog X.w) X.A X.env X.xe->kB Γ s st=Z7->PS X st (tDS X.K (aH Κ Φ s)))(a:tI s=Z7):Ss Κ Φ s:=⟨h,by cases s<;>first|(cases a;done)|exact λ_ _ _ _ _ _ h=>ff rfl h⟩
theorem RV:Ss Κ Φ (.asg t e):=Ss.x (λd X r st k w h=>by
 obtain⟨⟨z,v⟩,f,g⟩:=aS h;obtain⟨p,rfl⟩:=tG f;obtain⟨x,j,l⟩:=aS g;cases pH j;obtain⟨a,m,n,c⟩:=cZ l;cases t with
 |nm i=>obtain⟨y,q,rfl,o⟩:=jJ a;exact Es Κ Φ k o (gS m) c
 |tp is=>obtain⟨s,u⟩:=aE n;obtain⟨es,b,_⟩:=aS (aE a).2;obtain⟨_,_,rfl⟩:=Ea b;exact zo3 (Ar k a) ((all e).E d X r _ k c) ((show sg [_] _ _ _=l5 _ _ _ _ from rfl).trans (uN (gS s) _ _ _)) (RU (gS u)) rfl) rfl
theorem RW:Ss Κ Φ (.cF i a b):=Ss.x (λc X r st k B h=>by obtain⟨⟨C,v⟩,d,e⟩:=aS h;obtain⟨p,rfl⟩:=tG d;obtain⟨x,hx,f⟩:=aS e;cases pH hx;obtain⟨⟨y,D⟩,g,j⟩:=aS f;obtain⟨_,rfl⟩:=Ec g;obtain⟨l,F,m,n,o⟩:=dA j;obtain⟨z,q,rfl,s⟩:=jJ l;obtain⟨t,u,w,A⟩:=k.aK s;exact zuf k.hu t u w A (gS m) ((all a).E c X r _ k n) ((all b).E c X r _ k o)) rfl
theorem zsi:Ss Κ Φ (.mut m i args):=Ss.x (λΓ X r st k hp h=>by
 obtain⟨c,hv,h9⟩:=aS h;obtain⟨p,rfl⟩:=tH hv;obtain⟨⟨x,n,es,b⟩,hm,h8⟩:=aS h9;obtain⟨ap,cp,rfl,hb⟩:=sW hm;obtain⟨h0,h6,h7⟩:=cA h8;obtain⟨h1,h2,h3,h4,h5⟩:=dA h0;obtain⟨z,q,hz,k1⟩:=jJ h1;cases hz;obtain⟨y,es,rfl⟩:=vG h6;cases vt h2;have hm:=d7.mp h3;simp only[iy,ay,or_false]at hm;obtain⟨v1,v2,v3,v4⟩:=k.aK k1;rcases hm with rfl|rfl
 .exact zgo v1 v2 v3 v4 ((all args).A Γ X r _ k h7) (pJ h7) (vp h5) (hb.symm.trans h4)
 .exact zfy v1 v2 v3 v4 ((all args).A Γ X r _ k h7) (pJ h7) (vp h5) (hb.symm.trans h4)) rfl
theorem RX:Ss Κ Φ (.drop e):=Ss.x (λa X r st k g h=>by obtain⟨v,b,c⟩:=aS h;obtain⟨p,rfl⟩:=tH b;obtain⟨d,f⟩:=aE c;exact O3 (gS d) ((all e).E a X r _ k f)) rfl
theorem RY:Ss Κ Φ (.ret e):=Ss.x (λb X r st k s h=>by
 obtain⟨o,c,d⟩:=aS h;obtain⟨p,rfl⟩:=ye c;obtain⟨v,rfl,a⟩:=aS d;have g:=(all e).E b X r _ k a;cases e with
 |var i=>obtain⟨x,q,rfl,f⟩:=jJ a;obtain⟨j,l,m,n⟩:=k.aK f;exact z7h j l m n
 |_=>exact O2 g) rfl
theorem Eu (f:Ss Κ Φ a)(g:Ss Κ Φ b):Ss Κ Φ (.dJ c a b):=Ss.x (λd X r st k e h=>by obtain⟨v,i,j⟩:=aS h;obtain⟨p,rfl⟩:=yf i;obtain⟨l,m,n⟩:=cA j;exact C3 ((all c).T d X r _ k l).1 (f.L d X r _ k e m) (g.L d X r _ k e n)) rfl
theorem RZ (d:Ss Κ Φ b):Ss Κ Φ (.bN t it b):=Ss.x (λe X r st k c h=>by obtain⟨a,h⟩:=aE h;obtain⟨⟨t,i,B,o⟩,f,g⟩:=aS h;obtain⟨p,rfl⟩:=yg f;obtain⟨j,l,m,n⟩:=cZ g;cases iJ n;obtain⟨hf,hn⟩:=Jh Κ Φ k l;exact zuz c (k.calm a) hf (Ar k j) (d.L e X r _ k c m) (Ei hn _)) rfl
theorem tJ (e:Ss Κ Φ b):Ss Κ Φ (.wh n c b):=Ss.x (λa X r st k d h=>by obtain⟨⟨t,B,o⟩,f,g⟩:=aS h;obtain⟨p,rfl⟩:=Et f;obtain⟨i,j,l⟩:=cA g;cases iJ l;exact O9 d ((all c).T a X r _ k i).1 (e.L a X r _ k d j)) rfl
theorem Cok.cO (k:Cok Γ Κ Φ X r)(E:Value->ak->Prop):Cok Γ Κ Φ (X.cO E) r:=⟨k.hN,k.hs,k.nd,k.fn,k.kind,k.free,k.fns,k.cst,k.mH,k.room,k.calm,k.hu,k.pI,k.Eh,λn c z=>by obtain⟨a,oe,C,h1,h2,h3,h4⟩:=k.xc n c z;exact⟨a,oe,C,h1,λp σ H s I=>h2 p σ H s I.bK,h3,h4⟩,k.xk⟩
theorem Cok.nR {C:Addr}(k:Cok b Κ Φ X r)(nd:(b.N.set i "").Nodup)(hc:d.cls=.ref C)(hm:X.mg c=Z9 (.ref C)):Cok {b with N:=b.N.set i "",cm:=Z6,xc:=Z9 (n,c),fns:=[]} Κ Φ (Mi.nR X i n a d) r where
 hN:=by show X.N.set i ""=b.N.set i "";rw[k.hN]
 hs:=k.hs
 nd:=nd
 fn:=k.fn
 kind:=k.kind
 free:=k.free
 fns:=λj f n e=>by simp at e
 cst:=k.cst
 mH:=λj f n e=>by simp at e
 room:=λz=>by cases z
 calm:=λz=>by cases z
 hu:=k.hu
 pI:=k.pI
 Eh:=λz=>by cases z
 xc:=λg h z=>by cases z;exact⟨a,d,C,rfl,λ_ _ _ _ I=>(I.pin (a,d) (fh _ a8)).1,hc,hm⟩
 xk:=⟨k.xk.sub,k.xk.rs,k.xk.lR⟩
theorem Ew (e:CG h=Z9 v):∃a b,h=.ExceptHandler (Z9 (.Name v.1 a)) (Z9 v.2.1) v.2.2 b:=by
 unfold CG at e;split at e
 .cases e;exact⟨_,_,rfl⟩
 .cases e
theorem Ex (e:CH s=Z9 v):∃p cp ep np hp pos,s=.Try [.Expr (.Call (.Name v.1 p) v.2.1 [] cp) ep] [.ExceptHandler (Z9 (.Name v.2.2.1 np)) (Z9 v.2.2.2.1) v.2.2.2.2 hp] [] [] pos:=by
 unfold CH at e;split at e
 .obtain⟨u,h1,h2⟩:=jp.mp e;obtain⟨x,h3,rfl⟩:=dq.mp h2;obtain⟨q,p,rfl⟩:=lB h1;obtain⟨np,hp,rfl⟩:=Ew h3;exact⟨_,_,_,_,_,_,rfl⟩
 .cases e
theorem Ey (e:CF s=Z9 v):∃a b pos,s=.Raise (Z9 (.Call (.Name v.1 a) v.2 [] b)) Z8 pos:=by
 unfold CF at e;split at e
 .obtain⟨q,p,rfl⟩:=lB e;exact⟨_,_,_,rfl⟩
 .cases e
theorem Au (s:S):Ss Κ Φ s:=by
 induction s with
 |nil=>exact⟨λ_ _ _ _ _ _ h=>ff rfl h,λΓ X r st k hp h=>by cases iJ h;exact OZ⟩
 |seq a b ia ib=>
  refine⟨λ_ _ _ _ _ _ h=>ff rfl h,λΓ X r st k hp h=>?_⟩;cases st with
  |nil=>cases h
  |cons s st=>exact O0 (ia.R Γ X r _ k hp (aE h).1) (ib.L Γ X r _ k hp (aE h).2)
 |asg=>exact RV
 |qD=>refine Ss.x (λΓ X r st k hp h=>?_) rfl;intro pins s σ H D I q;obtain⟨ρ,F,out,so,e,_⟩:=q;cases e
 |cF=>exact RW
 | «mut»=>exact zsi
 |drop=>exact RX
 |ret=>exact RY
 |dJ _ _ _ ia ib=>exact Eu ia ib
 |bN _ _ _ ib=>exact RZ ib
 |wh _ _ _ ib=>exact tJ ib
theorem sL (Κ:List D)(Φ:List Fn)(s:S):∀a X r st,Cok a Κ Φ X r->g6 (model X.prog X.w) X.A X.env X.xe->chkL a s st=Z7->PSs X st (tDS X.K (aH Κ Φ s)):=(Au s).L
end
section
variable (Κ:List D)(Φ:List Fn)
structure Se (c:C):Prop where
 E:∀(Γ:Gm) (X:Cx) (r:Nat) (e:Expr),Cok Γ Κ Φ X r->chkE Γ c e=Z7->PE X e (tR X (nK Κ Φ c))
 A:∀(Γ:Gm) (X:Cx) (r:Nat) (es:List Expr),Cok Γ Κ Φ X r->dD Γ c es=Z7->PA X es (tRA X (qG Κ Φ c))
 T:∀(Γ:Gm) (X:Cx) (r:Nat) (e:Expr),Cok Γ Κ Φ X r->dZ Γ c e=Z7->PT X e (vF X (rV Κ Φ c))
variable {Κ Φ}
theorem yh (h:∀ρ,nK Κ Φ c ρ=Z8):PE X e (tR X (nK Κ Φ c)):=λpins s σ H Q I z=>(x8 h σ H z).elim
theorem Ez (h:∀ρ,qG Κ Φ c ρ=Z8):PA X e (tRA X (qG Κ Φ c)):=λpos pins s σ H Q I z=>(x8 h σ H z).elim
theorem yi (h:∀ρ,rV Κ Φ c ρ=Z8):PT X e (vF X (rV Κ Φ c)):=λpins s σ H Q I z=>(x8 h σ H z).elim
theorem Se.no (h1:∀ρ,nK Κ Φ c ρ=Z8)(h2:∀ρ,qG Κ Φ c ρ=Z8)(h3:∀ρ,rV Κ Φ c ρ=Z8):Se Κ Φ c:=⟨λ_ _ _ _ _ _=>yh h1,λ_ _ _ _ _ _=>Ez h2,λ_ _ _ _ _ _=>yi h3⟩
theorem yj (ia:Se Κ Φ args):Se Κ Φ (.call j f args) where
 E:=λΓ X r e k h=>by
  obtain⟨⟨x,es⟩,hv,h9⟩:=aS h;obtain⟨_,_,rfl⟩:=lB hv;obtain⟨h1,h2,h3,h4,h5⟩:=dA h9;obtain⟨y,es,rfl⟩:=vG h5;obtain⟨h0,h1⟩:=aE h1;cases vt h1;obtain⟨g1,g2⟩:=k.gl h2;obtain⟨m,kk,ps,c1,c2,c3⟩:=k.mH j _ _ (vt h3);refine PE.imp (zix c3 (k.room h0) c2 ((all args).A Γ X r _ k h4) (ia.A Γ X r _ k h4) (pJ h4) g1 g2 (vI Κ Φ h4)) λσ H Q hq=>?_
  have ee:nK Κ Φ (.call j x args)=λρ=>match(dC Κ Φ args ρ:Res (List GD))with|.ok ys=>excOf (m (pv (λ(y:GD)=>y.2) ys))|_=>qG Κ Φ args ρ:=by
   funext ρ
   show(match(dC Κ Φ args ρ:Res (List GD))with|.ok ys=>(match Φ[j]? with|some m=>excOf (m (pv (λ(y:GD)=>y.2) ys))|none=>Z8)|_=>qG Κ Φ args ρ)=_;rw[c1]
  rw[ee]at hq;exact hq
 A:=λ_ _ _ _ _ h=>ff rfl h
 T:=λ_ _ _ _ _ h=>ff rfl h
theorem pK (c:C):Se Κ Φ c:=by
 induction c with
 |call _ _ _ ia=>exact yj ia
 |cons a r ia ir=>
  refine⟨λ_ _ _ _ _ h=>ff rfl h,λΓ X n es k h=>?_,λ_ _ _ _ _ h=>ff rfl h⟩;cases es with
  |nil=>cases h
  |cons e es=>obtain⟨h1,h2,h3⟩:=cA h;exact QH (gS h1) ((all a).E Γ X n _ k h2) (ia.E Γ X n _ k h2) (ir.A Γ X n _ k h3)
 |not a ia=>refine⟨λ_ _ _ _ _ _=>yh λ_=>rfl,λ_ _ _ _ _ h=>ff rfl h,λΓ X r e k h=>?_⟩;obtain⟨⟨o,x⟩,hv,h9⟩:=aS h;obtain⟨p,rfl⟩:=sV hv;obtain⟨h1,h2⟩:=aE h9;cases vp h1;exact QI (ia.T Γ X r _ k h2)
 |tv a ia=>
  refine⟨λ_ _ _ _ _ h=>ff rfl h,λ_ _ _ _ _ h=>ff rfl h,λΓ X r e k h=>?_⟩;obtain⟨h1,h2⟩:=aE h;rcases gf.mp h1 with h1|h1
  .exact QJ (ia.E Γ X r _ k h2) (Jd h1 _)
  .obtain⟨_,_,_,_,rfl⟩:=Jf h1;cases a<;>first|exact yi λ_=>rfl|exact ff rfl h2
 |_=>exact Se.no (λ_=>rfl) (λ_=>rfl) λ_=>rfl
variable (Κ Φ)
structure Sq (s:S):Prop where
 R:∀(Γ:Gm) (X:Cx) (r:Nat) (st:Stmt),Cok Γ Κ Φ X r->g6 (model X.prog X.w) X.A X.env X.xe->kB Γ s st=Z7->PS X st (tRS X (fC Κ Φ s))
 L:∀(Γ:Gm) (X:Cx) (r:Nat) (st:List Stmt),Cok Γ Κ Φ X r->g6 (model X.prog X.w) X.A X.env X.xe->chkL Γ s st=Z7->PSs X st (tRS X (fC Κ Φ s))
variable {Κ Φ}
theorem Sq.x (h:∀(Γ:Gm) (X:Cx) (r:Nat) (st:Stmt),Cok Γ Κ Φ X r->g6 (model X.prog X.w) X.A X.env X.xe->kB Γ s st=Z7->PS X st (tRS X (fC Κ Φ s)))(hx:tI s=Z7):Sq Κ Φ s:=⟨h,by cases s<;>first|(cases hx;done)|exact λ_ _ _ _ _ _ h=>ff rfl h⟩
theorem Sq.no (h:∀ρ,fC Κ Φ s ρ=Z8)(hx:tI s=Z7):Sq Κ Φ s:=Sq.x (λΓ X r st k hp hc pins sh σ H D I z=>(x8 h σ H z).elim) hx
theorem R0 (h:Hn e=Z7):∃z k p,e=.Constant (.str z) k p:=by obtain⟨c,hc,h⟩:=aS h;obtain⟨k,p,rfl⟩:=ya hc;cases c<;>first|(cases h;done)|exact⟨_,_,_,rfl⟩
theorem EA (s:S):Sq Κ Φ s:=by
 induction s with
 |nil=>exact⟨λ_ _ _ _ _ _ h=>ff rfl h,λΓ X r st k hp h=>by cases iJ h;exact QR⟩
 |seq a b ia ib=>
  refine⟨λ_ _ _ _ _ _ h=>ff rfl h,λΓ X r st k hp h=>?_⟩;cases st with
  |nil=>cases h
  |cons s st=>exact QO ((Au a).R Γ X r _ k hp (aE h).1) (ia.R Γ X r _ k hp (aE h).1) (ib.L Γ X r _ k hp (aE h).2)
 |dJ c a b ia ib=>refine Sq.x (λΓ X r st k hp h=>?_) rfl;obtain⟨v,hv,h9⟩:=aS h;obtain⟨p,rfl⟩:=yf hv;obtain⟨h1,h2,h3⟩:=cA h9;exact QN ((all c).T Γ X r _ k h1).1 ((pK c).T Γ X r _ k h1) (ia.L Γ X r _ k hp h2) (ib.L Γ X r _ k hp h3)
 |bN t it b ib=>refine Sq.x (λΓ X r st k hp h=>?_) rfl;obtain⟨gR,h⟩:=aE h;obtain⟨⟨t,i,B,o⟩,hv,h9⟩:=aS h;obtain⟨p,rfl⟩:=yg hv;obtain⟨h1,h2,h3,h4⟩:=cZ h9;cases iJ h4;obtain⟨hf,hn⟩:=Jh Κ Φ k h2;exact zor hp (k.calm gR) hf (Ar k h1) ((Au b).L Γ X r _ k hp h3) (ib.L Γ X r _ k hp h3) (Ei hn _)
 |drop e=>refine Sq.x (λΓ X r st k hp h=>?_) rfl;obtain⟨v,hv,h9⟩:=aS h;obtain⟨p,rfl⟩:=tH hv;obtain⟨h1,h2⟩:=aE h9;exact QK (gS h1) ((pK e).E Γ X r _ k h2)
 |ret e=>refine Sq.x (λΓ X r st k hp h=>?_) rfl;obtain⟨o,hv,h9⟩:=aS h;obtain⟨p,rfl⟩:=ye hv;obtain⟨v,rfl,h8⟩:=aS h9;exact QM ((pK e).E Γ X r _ k h8)
 |asg t e=>
  cases t with
  |tp is=>exact Sq.no (λ_=>rfl) rfl
  |nm i=>
   cases e with
   |call j f args=>
    refine Sq.x (λΓ X r st k hp h=>?_) rfl;obtain⟨⟨ts,v⟩,hv,h9⟩:=aS h;obtain⟨p,rfl⟩:=tG hv;obtain⟨x,hx,h8⟩:=aS h9;cases pH hx;obtain⟨h1,h2,h3,h4⟩:=cZ h8;obtain⟨y,q,rfl,h5⟩:=jJ h1;obtain⟨l1,l2,l3⟩:=k.loc h5;have hc:z27 v=false:=by obtain⟨u,hu,_⟩:=aS h4;obtain⟨_,_,rfl⟩:=lB hu;rfl
    exact QL (by rw[k.hN];exact k.nd) l1 l2 l3 hc ((pK _).E Γ X r _ k h4)
   |_=>exact Sq.no (λ_=>rfl) rfl
 |qD c=>refine Sq.x (λΓ X r st k hp h=>?_) rfl;obtain⟨⟨x,es⟩,hv,h9⟩:=aS h;obtain⟨np,cp,pos,rfl⟩:=Ey hv;obtain⟨h1,h2,h3,h4,h5⟩:=dA h9;obtain⟨y,hy,h6⟩:=aS h5;cases pH hy;obtain⟨z,kk,p,rfl⟩:=R0 h6;cases vt h1;obtain⟨g1,g2⟩:=k.gl h2;obtain⟨C,m1,xC⟩:=k.xk.rs x h3;exact QS (k.room h4).hd g1 m1 g2 xC
 |_=>exact Sq.no (λ_=>rfl) rfl
end
section
variable {P:bu}{w:World}{K:Z5}{mg:Str->Option Value}{base:Heap}
structure Dok (Γ:Gm)(Κ:List D)(Φ:List Fn)(P:bu)(w:World)(K:Z5)(mg:Str->Option Value)(base:Heap)(k:Nat):Prop where
 free:∀x,Γ.free.contains x=Z7->mg x=Z8
 fns:∀(j:Nat) f n,Γ.fns[j]?=Z9 (f,n)->∃m k' ps,Φ[j]?=Z9 m/\k'<=k/\Cal P w K mg base k' f ps (spD K n m)
 cst:∀(j:Nat) x,Γ.cst[j]?=Z9 x->∃d v u,Κ[j]?=Z9 d/\mg x=Z9 u/\RelV v u/\∀H B,B Z8->Rep K H B v d
 mH:∀(j:Nat) f n,Γ.fns[j]?=Z9 (f,n)->∃m k' ps,Φ[j]?=Z9 m/\k'<=k/\CalX P w K mg base k' f ps n m
 xk:vH Γ K mg
theorem EB (r:Reps K H A f b):StOk K ⟨H,λa=>H a=Z8\/A (Z9 a),λ_=>Z8,A Z8⟩ H (f.map Z9++b8 (n-f.length) Z8) (b.map (λd=>Z9 (.od,d))++b8 (n-b.length) Z8) where
 ext:=Same.refl H
 aK:=λa e=>.inl e
 own:=λa i e=>by cases e
 len:=by have:=r.length;simp;omega
 sl:=λi g d e=>by
  rw[md]at e;split at e
  .rename_i j;rw[a9]at e;cases c:b[i]? with
   |none=>rw[c]at e;cases e
   |some m=>
    rw[c]at e;cases e;obtain⟨v,k,l⟩:=Reps.get r c;refine⟨v,?_,?_⟩
    .rw[md,vh (by rw[ae,r.length];rw[ae]at j;exact j),a9,k];rfl
    .refine(Rep.there _ l).weak λa h=>?_;cases a with
     |none=>exact h.1
     |some a=>exact⟨λz=>h.2 z,.inr h.1⟩
  .rw[gj]at e;split at e<;>cases e
theorem Jj (e:(match fC Κ Φ s ρ with|some c=>Res.exc (.str c)|none=>.no)=Res.ok x):False:=by cases h:fC Κ Φ s ρ<;>rw[h]at e<;>cases e
theorem d_fn {st:Stmt}(Fu:Fun K x x st f fd)(Sc:FnScope Γ.N ps (z08 st))(hs:Γ.sc=z08 st)(hb:Γ.blk=Z6)(hxc:Γ.xc=Z8)(dk:Dok Γ Κ Φ P w K mg base k)(hc:chkL Γ s (z0m st)=Z7):
  FnOk P w K mg base kS (k+1) f fd ps (spD K ps.length (aV Κ Φ Γ.N.length s)):=by
 refine Fu.ok Sc (λvs H Q E h=>h.choose_spec.choose_spec.choose_spec.1) λkT A outer s1 H vs Q E hr kR=>?_;obtain⟨B,ds,r,hl,rs,e,q⟩:=kR;refine⟨_,sL Κ Φ s Γ (fO kS P w K mg base Γ.N x (z08 st) f kT A outer s1 H E).lI k _ ⟨rfl,hs.symm,Sc.nd,λ_ _=>rfl,by rw[hs];exact Sc.kind,dk.free,dk.fns,dk.cst,dk.mH,λ_=>hr,λ_=>rfl,hr.units,λ_=>⟨rfl,rfl⟩,λ_=>rfl,λ_ _ z=>(by rw[hxc]at z;cases z),dk.xk⟩ PassesOwn.never hc,?_⟩;unfold aV at e;have so:=EB (n:=Γ.N.length) rs;generalize ho:aH Κ Φ s (ds.map (λd=>Z9 (.od,d))++b8 (Γ.N.length-ds.length) Z8)=out at e
 match out,ho,e with
 |.ok (.nx aL),ho,e=>cases e;refine⟨_,_,_,so,ho,λσ' H' F' qK ru fr=>q .bU H' (λa o e=>(fr a o e rfl).1) rfl⟩
 |.ok (.rt g d),ho,e=>
  cases e;refine⟨_,_,_,so,ho,λv H' hk rv=>q v H' hk (rv.weak λa h=>?_)⟩;cases g with
  |fr=>cases a<;>exact h
  |nu=>cases a<;>exact h
  |od=>cases a with
   |none=>exact .inr h
   |some a=>exact h.elim .inl λz=>.inr z
  |al=>cases a with
   |none=>exact .inr h
   |some a=>exact h.elim .inl λz=>.inr z
 |.exc _,ho,e=>exact(Jj e).elim
 |.no,ho,e=>exact(Jj e).elim
theorem zu3 {st:Stmt}(Fu:Fun K x x st f fd)(Sc:FnScope Γ.N ps (z08 st))(hs:Γ.sc=z08 st)(hb:Γ.blk=Z6)(hxc:Γ.xc=Z8)(dk:Dok Γ Κ Φ P w K mg base k)(hc:chkL Γ s (z0m st)=Z7):
  FnOk P w K mg base (An P w base) (k+1) f fd ps (Ap K mg ps.length (aV Κ Φ Γ.N.length s)):=by
 obtain⟨oc,od,kV,doc,pm,an,kT,ct,B1,rfl,lk,hcd⟩:=Fu.ex;refine zis lk hcd Sc (λvs H Q E h=>h.choose_spec.choose_spec.choose_spec.1) λA outer s1 H vs Q E hr kR=>?_;obtain⟨B,ds,c,hl,rs,e,q⟩:=kR;refine⟨_,(EA s).L Γ (fO (An P w base) P w K mg base Γ.N x (z08 st) f kT A outer s1 H E) k _ ⟨rfl,hs.symm,Sc.nd,λ_ _=>rfl,by rw[hs];exact Sc.kind,dk.free,dk.fns,dk.cst,dk.mH,λ_=>hr,λ_=>rfl,hr.units,λ_=>⟨rfl,rfl⟩,λ_=>rfl,λ_ _ z=>(by rw[hxc]at z;cases z),dk.xk⟩ PassesOwn.leaving hc,?_⟩;have so:=EB (n:=Γ.N.length) rs;refine⟨_,_,c,so,?_,?_⟩
 .unfold aV at e;split at e
  .cases e
  .cases e
  .split at e
   .rename_i h;cases e;exact h
   .cases e
 .refine⟨λpins σ H1 s2 a C args h' I hm hS hx=>?_,λpins σ H1 s2 a C H' s' I hm hS fl=>?_⟩
  .exact zay I hx rfl rfl rfl λs3 fl=>⟨a,C,Z8,H1,rfl,fl,q C H1 hm hS⟩
  .exact fl.leave (outer:=[]) I rfl rfl rfl λs3 fl=>⟨a,C,Z8,H',rfl,fl,q C H' hm hS⟩
theorem R3 {ns:List Int}(h:SqL K H a (ns.map V.int)):Reps K H (λ_=>True) [.ref a] [.list (ns.map .int)]:=by
 refine⟨_,_,rfl,⟨a,ns.map V.int,rfl,?_,?_⟩,rfl⟩
 .rcases h with(h|h)|h
  .exact .inl ⟨h,trivial⟩
  .exact .inr ⟨.inl h,trivial⟩
  .exact .inr ⟨.inr h,trivial⟩
 .clear h
  induction ns with
  |nil=>rfl
  |cons n ns b=>exact⟨_,_,rfl,rfl,b⟩
end
section
variable {X:Cx}{pins:List (Addr×Obj)}{σ:L2.St}{H:Hp}{s:ak}{i:Nat}{n:Str}{a:Addr}{oe:Obj}
def vJ (X:Cx)(i:Nat)(n:Str)(a:Addr)(oe:Obj):Cx:={X with N:=X.N.set i "",pn:=(a,oe)::X.pn,fx:=Z9 (n,.ref a)}
theorem R4 (ok:X.Ok)(nd:X.N.Nodup)(hi:X.N[i]?=Z9 n)(hv:X.env.scope.names.lookup ("":Str)=Z8)(hl:X.env.scope.names.lookup n=Z9 .local):(vJ X i n a oe).Ok:=by
 refine⟨ok.mod,ok.kind,ok.glob,ok.blt,ok.above,ok.inj,ok.has,ok.pY,ok.hd,ok.frames,ok.rC,ok.rD,ok.bs,ok.iL,ok.gT,ok.gU,ok.cN,ok.nD,λx u z=>?_⟩;cases z;refine⟨λhm=>?_,hl⟩;obtain⟨j,hj⟩:=c8.mp hm;have hj:(X.N.set i "")[j]?=Z9 n:=hj;by_cases e:i=j
 .subst e;rw[cu (aq.mp hi).1]at hj;cases hj;rw[hv]at hl;cases hl
 .rw[bh e]at hj;exact e (wg nd hi hj)
theorem R5 (I:Inv X ((a,oe)::pins) σ H s)(nd:X.N.Nodup)(hi:X.N[i]?=Z9 n)(hv:X.env.scope.names.lookup ("":Str)=Z8)(hl:X.env.scope.names.lookup n=Z9 .local)(hσ:σ[i]?=Z9 (Z9 (.ref a))):Inv (vJ X i n a oe) pins (σ.set i Z8) H s:=by
 obtain⟨m,hn,Aw⟩:=I.loc;refine⟨R4 I.ok nd hi hv hl,I.os,I.bare,I.base,⟨m,hn,λj x v e1 e2 e3=>?_⟩,I.cell,I.free,I.bE,λp hp=>I.pin p ((ay.mp hp).elim (λe=>ax _ (ay.mpr (.inl e))) λh=>(d9.mp h).elim (λh=>fh _ h) λh=>ax _ (ba _ h)),I.hok,?_,λx u z=>?_⟩
 .have e1:(X.N.set i "")[j]?=Z9 x:=e1;by_cases e:i=j
  .subst e;rw[cu (by rw[I.len];exact(aq.mp hi).1)]at e2;cases e2
  .rw[bh e]at e1 e2;exact Aw j x v e1 e2 e3
 .show(σ.set i Z8).length=(X.N.set i "").length;rw[cg,cg];exact I.len
 .cases z;obtain⟨u,r,q⟩:=Aw i n (.ref a) hi hσ (.inl hl);cases r;rcases q with⟨_,q⟩|⟨k,_⟩
  .exact⟨m,hn,q⟩
  .have k:X.env.scope.names.lookup n=Z9 .cell\/X.env.scope.names.lookup n=Z9 .free:=k;rcases k with k|k<;>(rw[hl]at k;cases k)
theorem R6 (ok:X.Ok)(hx:X.fx=Z8)(hi:X.N[i]?=Z9 n)(I:Inv (vJ X i n a oe) pins σ H s):Inv X pins (σ.set i Z8) H s:=by
 obtain⟨m,hn,Aw⟩:=I.loc;have hlen:σ.length=(X.N.set i "").length:=I.len;rw[cg]at hlen;refine⟨ok,I.os,I.bare,I.base,⟨m,hn,λj x v e1 e2 e3=>?_⟩,I.cell,I.free,I.bE,λp hp=>I.pin p (ba _ hp),I.hok,by rw[cg];exact hlen,λx u z=>by rw[hx]at z;cases z⟩;by_cases e:i=j
 .subst e;rw[cu (by rw[hlen];exact(aq.mp hi).1)]at e2;cases e2
 .rw[bh e]at e2;exact Aw j x v (show(X.N.set i "")[j]?=Z9 x by rw[bh e];exact e1) e2 e3
theorem R7:Xh (vJ X i n a oe) a oe:=λ_ _ _ _ I=>(I.pin (a,oe) a8).1
end
section
variable {P:bu}{w:World}{K:Z5}{mg:Str->Option Value}{base:Heap}
theorem R8 (hl:σ.length=N):StOk K ⟨H,λa=>H a=Z8\/True,λ_=>Z8,True⟩ H σ (b8 N Z8) where
 ext:=Same.refl H
 aK:=λa e=>.inl e
 own:=λa i e=>by cases e
 len:=by rw[ez];exact hl
 sl:=λi g d e=>by rw[gj]at e;split at e<;>cases e
end
section
variable {X:Cx}{pins:List (Addr×Obj)}{σ:L2.St}{H:Hp}{s:ak}{i j:Nat}{n y c:Str}
theorem zlb {Q:Flow->ak->Prop}{B:Str}{C D a:Addr}{H1 H':Hp}{s1 s':ak}{np hp yp ep ap:Pos}(I:Inv X pins σ H1 s1)(sm:Same H1 H')(fl:Fly X.prog X.w X.base X.stack H1 s1 C a H' s' Z8)(hs:X.stack=X.env::X.outer)(hf:X.env.frame=Z9 X.env.locals)(hex:X.ex=[])(hx:X.fx=Z8)(nd:X.N.Nodup)(hi:X.N[i]?=Z9 n)(hv:X.env.scope.names.lookup ("":Str)=Z8)(hl:X.env.scope.names.lookup n=Z9 .local)(hdn:VI n)
  (EC:(X.N.set i "").Nodup) (cM:i≠j) (hj:X.N[j]?=Z9 y) (tK:X.env.scope.names.lookup y=Z9 .local) (hc:X.mg c=Z9 (.ref C))
  (hB:X.mg B=Z9 (.ref D)) (xC:kK X.K C=Z7) (xD:kK X.K D=Z7) (sb:Z4 X.K (.ref C) (.ref D)=Z9 Z7) (ED:Gl X B) (EE:VI B)
  (q:∀σ' oe s9,Inv X ((a,oe)::pins) σ' H' s9->σ'[j]?=Z9 (Z9 (.ref a))->oe.cls=.ref C->Q .next s9):
  wpAny (model X.prog X.w) X.A (nk (.ref a) X.env) (λ_ s2=>wpAny (model X.prog X.w) X.A (rm (.ref a) Z8) (λ_ s3=>wpAny (model X.prog X.w) X.A (handleBy (.ref a) X.env [.ExceptHandler (Z9 (.Name B np)) (Z9 n) [.Assign [.Name y yp] (.Name n ep) ap] hp]) Q X.xe s3) X.xe s2) X.xe s':=by
 have Ao:X.A.frames=Z9 (X.env::X.outer):=by rw[<-hs];exact I.ok.frames
 obtain⟨B0,R9,Sa,D8,w0⟩:=fl.hh;have Jk:=w0;rw[hs]at Jk;have mk:∀h6,FlD B0 (X.env::X.outer) a (.ref C) Z8 h6->s'.heap.UpToSlots h6->Fly X.prog X.w X.base X.stack H1 s1 C a H' {s' with heap:=h6} none:=λh6 w6 up=>by refine⟨fl.os,fl.bare,fl.bV,fl.bR,fl.bW,fl.free,⟨B0,R9,Sa,D8,by rw[hs];exact w6⟩,λb o e z hb=>?_⟩;obtain⟨sl,e1⟩:=fl.slot b o e z hb;obtain⟨_,o3,e3,yk⟩:=I.stack.mem hb;rw[e]at e3;cases e3;obtain⟨x6,e4⟩:=up b _ e1 yk;exact⟨x6,e4⟩
 refine z9q Ao hf Jk λh4 held Jl=>?_;refine IZ held λh5 w5 Jm=>?_;have f5:=mk h5 w5 (Jl.trans Jm);have I5:=f5.inv I;refine wpAny_handleBy_cons (codeAny_handlers_test ?_) (by intro z;cases z);refine j6 I5.ok.kind ED (o6 (by rw[I5.ok.glob];exact I5.mod.glob.keeps I5.bk) hB ?_) EE;obtain⟨Vt,oC,cC⟩:=XC.mk I5.eY xC;obtain⟨Vu,oD,_⟩:=XC.mk I5.eY xD;obtain⟨ob,_,Sb,EF,_⟩:=w5.first;refine QA oC oD Sb EF (cC _ _ sb) ?_;refine codeAny_handlers_suite_as (QE w5 λh6 w6 Sf=>?_);have f6:=mk h6 w6 ((Jl.trans Jm).trans Sf);have I6:=f6.inv I;obtain⟨oe,vs,Ax,EG,Sg,pL⟩:=w6.first;refine z43 I6 nd hi (.inl hl) (v:=.ref a) rfl (λs7 I7 ch=>?_) (.inr hl);obtain⟨ad,Sh,Si⟩:=ch;have nL:a≠X.env.locals:=λz=>by obtain⟨_,o3,e3,yk⟩:=I6.stack.mem (b:=X.env.locals) (by rw[hs,dg,hf];exact a8);rw[<-z]at e3;have e3:h6.get? a=Z9 o3:=e3;rw[Ax]at e3;cases e3;exact yk vs pL
 have nF:a∉X.fs:=λz=>by obtain⟨_,o3,e3,yk⟩:=I6.cN.mem (b:=a) z;have e3:h6.get? a=Z9 o3:=e3;rw[Ax]at e3;cases e3;exact yk vs pL
 have nA:a≠ad:=λz=>by
  rcases Si with h|h
  .exact nL (z.trans h)
  .obtain⟨v,oc,qB,nY⟩:=I6.cell n ad h;rw[<-z]at qB;have qB:h6.get? a=Z9 oc:=qB;rw[Ax]at qB;cases qB;rw[pL]at nY;cases nY
 have Sj:s7.heap.get? a=Z9 oe:=(Sh.2 a nA).trans Ax;have eF:i<σ.length:=by rw[I.len];exact(aq.mp hi).1
 have Sk:H' a=none:=QX f6;have yl:∀v,oe.data≠.cell v:=λv z=>by rw[pL]at z;cases z
 have I8:=zni I7 nd hi hv hl (cu eF) Sj Sk nL nF yl;rw[um]at I8
 have I9:Inv (nR X i n a oe) ((a,oe)::pins) (σ.set i Z8) H' s7:=I8.eJ λp hp=>by
  rcases ay.mp hp with rfl|hp
  .exact I8.pin _ (fh _ a8)
  .exact I8.pin p (ax _ hp)
 have Sl:(nR X i n a oe).N[j]?=Z9 y:=by show(X.N.set i "")[j]?=Z9 y;rw[bh cM];exact hj
 have st:=wJ (X:=nR X i n a oe) (pos:=ap) (pos':=yp) EC Sl (.inl tK) (Jc (p:=ep) rfl hl hdn) rfl (.inr tK);have run:=L9 st ((a,oe)::pins) s7 (σ.set i Z8) H' ⟨λσ' tL=>σ'=(σ.set i Z8).set j (Z9 (.ref a))/\tL=H',λ_ _=>False,λ_ _=>False,λ_ _=>False⟩ I9 ⟨rfl,rfl⟩;refine gk run (λSm s9 h9=>?_) λ_ _ z=>z.elim;have en:=zcq (M:=model X.prog X.w) (D2:=⟨λσ' tL=>σ'=(σ.set i Z8).set j (Z9 (.ref a))/\tL=H',λ_ _=>False,λ_ _=>False,λ_ _=>False⟩) (Dn:=⟨λσ' tL=>σ'=((σ.set i Z8).set j (Z9 (.ref a))).set i Z8/\tL=H',λ_ _=>False,λ_ _=>False,λ_ _=>False⟩) (pos:=hp) (E:=X.xe) I.ok hx nd hi hl (λσ' tL z=>⟨by rw[z.1],z.2⟩) (λ_ _ z=>z) (λ_ _ z=>z) (λ_ _ z=>z) h9;refine gk en (λ_ Sn Ay=>?_) λ_ _ z=>z;cases Sm with
 |next=>obtain⟨σ',tL,So,rfl,rfl⟩:=Ay;exact q _ oe Sn So (by rw[bh cM,cu (by rw[cg,I.len];exact(aq.mp hj).1)]) EG
 |ret u=>obtain⟨_,_,_,_,_,z⟩:=Ay;exact z.elim
 |brk=>obtain⟨_,_,_,z⟩:=Ay;exact z.elim
 |cont=>obtain⟨_,_,_,z⟩:=Ay;exact z.elim
end
structure Gd where
 kf:Nat
 args:C
 c:Str
 i:Nat
 j:Nat
 t:S
 r:Bool
def iC (Φ:List Fn)(n:Nat)(pre:S)(d:Gd)(ds:List D):Res GD:=match aH [] Φ pre (ds.map (λd=>Z9 (.od,d))++b8 (n-ds.length) Z8)with
 |.ok (.nx ρ)=>(match dC [] Φ d.args ρ with
  |.ok ys=>(match Φ[d.kf]? with
   |some m=>if excOf (m (ys.map (·.2)))=Z9 d.c then .ok (.fr,.bool d.r)else .no
   |none=>.no)
  |_=>.no)
 |_=>.no
section
variable {X:Cx}{i j:Nat}{n y c:Str}
theorem zlw {e:Expr}{es:List Expr}{f B:Str}{k2 k' nn:Nat}{ps2:List Str}{m:Fn}{fs:Rho->Res (List GD)}{p cp ep np hp pos yp np2 ap:Pos}{C D:Addr}{rest:List Stmt}{T:TS}
  (Cx:CalX X.prog X.w X.K X.mg X.base k2 f ps2 nn m) (hr:Room k' X.A) (Ik:k2<=k') (ha:∀E,PA (X.cO E) (e::es) (tDA X.K fs)) (hst:((e::es).all λe=>!isStar e)=Z7) (hg:Gl X f) (hdb:VI f) (hlen:∀ρ ys,fs ρ=.ok ys->ys.length=nn)
  (hs:X.stack=X.env::X.outer) (hf:X.env.frame=Z9 X.env.locals) (hex:X.ex=[]) (hx:X.fx=Z8) (nd:X.N.Nodup) (hi:X.N[i]?=Z9 n) (hv:X.env.scope.names.lookup ("":Str)=Z8) (hl:X.env.scope.names.lookup n=Z9 .local) (hdn:VI n)
  (EC:(X.N.set i "").Nodup) (cM:i≠j) (hj:X.N[j]?=Z9 y) (tK:X.env.scope.names.lookup y=Z9 .local)
  (hc:X.mg c=Z9 (.ref C)) (hB:X.mg B=Z9 (.ref D)) (xC:kK X.K C=Z7) (xD:kK X.K D=Z7) (sb:Z4 X.K (.ref C) (.ref D)=Z9 Z7) (ED:Gl X B) (EE:VI B)
  (tl:∀a oe,oe.cls=.ref C->PSs (vJ X j y a oe) rest T):
  PSs X (.Try [.Expr (.Call (.Name f p) (e::es) [] cp) ep] [.ExceptHandler (Z9 (.Name B np)) (Z9 n) [.Assign [.Name y yp] (.Name n np2) ap] hp] [] [] pos::rest) (λDn σ H=>∃ρ F ys,StOk X.K F H σ ρ/\fs ρ=.ok ys/\excOf (m (ys.map (·.2)))=Z9 c/\∀σ' H',σ'.length=X.N.length->Same H H'->T ⟨λ_ _=>False,Dn.rt,λ_ _=>False,λ_ _=>False⟩ σ' H'):=by
 intro pins s σ H Dn I hq;obtain⟨ρ,F,ys,so,e2,e3,q⟩:=hq
 have key:wpAny (model X.prog X.w) X.A (exec (.Try [.Expr (.Call (.Name f p) (e::es) [] cp) ep] [.ExceptHandler (Z9 (.Name B np)) (Z9 n) [.Assign [.Name y yp] (.Name n np2) ap] hp] [] [] pos) X.env) (λfl s1=>fl=.next/\∃a oe σ' H',Inv X ((a,oe)::pins) σ' H' s1/\σ'[j]?=Z9 (Z9 (.ref a))/\oe.cls=.ref C/\Same H H') X.xe s:=by
  refine wpAny_Try_except ?_;generalize hE:(λ(e:Value) (rO:ak)=>wpAny (model X.prog X.w) X.A (nk e X.env) (λ_ EH=>wpAny (model X.prog X.w) X.A (rm e Z8) (λ_ EI=>wpAny (model X.prog X.w) X.A (handleBy e X.env [.ExceptHandler (Z9 (.Name B np)) (Z9 n) [.Assign [.Name y yp] (.Name n np2) ap] hp]) (λfl s1=>fl=.next/\∃a oe σ' H',Inv X ((a,oe)::pins) σ' H' s1/\σ'[j]?=Z9 (Z9 (.ref a))/\oe.cls=.ref C/\Same H H') X.xe EI) X.xe EH) X.xe rO)=E;have h1:=z55 (X:=X.cO E) (p:=p) (pos:=cp) Cx hr Ik (ha E) hst hg hdb hlen (I.cO E) so e2 e3 λH1 s1 C' a H' s' I1 z1 q1 sm fl=>by have e6:X.mg c=Z9 (.ref C'):=q1;rw[hc]at e6;cases e6;show E (.ref a) s';rw[<-hE];exact zlb I1.bK sm fl hs hf hex hx nd hi hv hl hdn EC cM hj tK hc hB xC xD sb ED EE λσ' oe s9 I9 h9 Sr=>⟨rfl,a,oe,σ',H',I9,h9,Sr,λb o e=>sm b o (z1 b o e)⟩
  exact kb (wpAny_Expr_any (aI h1 λ_ _ z=>z.elim) I.quiet (uN rfl _ _ _))
 refine kb (aI key λfl s1 z=>?_);obtain⟨rfl,a,oe,σ',H',I1,h1,qO,sm⟩:=z;have I2:=R5 I1 nd hj hv tK h1;refine aI (tl a oe qO pins s1 _ H' ⟨λ_ _=>False,Dn.rt,λ_ _=>False,λ_ _=>False⟩ I2 (q _ H' (by rw[cg,I1.len]) sm)) λfl s9 h9=>?_;cases fl with
 |ret u=>obtain⟨v,σ',H',J,rv,qv⟩:=h9;exact⟨v,_,H',R6 I.ok hx hj J,rv,qv⟩
 |next=>obtain⟨_,_,_,z⟩:=h9;exact z.elim
 |brk=>obtain⟨_,_,_,z⟩:=h9;exact z.elim
 |cont=>obtain⟨_,_,_,z⟩:=h9;exact z.elim
end
def EJ:List Stmt->Option (Str×Str)
 | [.Assign [.Name y _] (.Name n _) _]=>Z9 (y,n)
 |_=>Z8
theorem Su (h:EJ l=Z9 v):∃yp np ap,l=[.Assign [.Name v.1 yp] (.Name v.2 np) ap]:=by
 unfold EJ at h;split at h
 .cases h;exact⟨_,_,_,rfl⟩
 .cases h
def EK (s:S)(n:Nat)(b:Bool):Bool:=match aH [] [] s (b8 n Z8)with
 |.ok (.rt _ (.bool b'))=>b'==b
 |_=>Z6
theorem tells_of (h:EK s n b=Z7):∃g,aH [] [] s (b8 n Z8)=.ok (.rt g (.bool b)):=by
 unfold EK at h;split at h
 .rename_i g b' e;cases vt h;exact⟨g,e⟩
 .cases h
def Gm.tl (Γ:Gm)(d:Gd)(y:Str):Gm:={Γ with N:=Γ.N.set d.j "",fns:=[],cst:=[],xc:=Z9 (y,d.c)}
def zld (Γ:Gm)(pre:S)(d:Gd):List Stmt->Bool
 |s0::t::rest=>kB Γ pre s0&&(CH t).any λv=>(EJ v.2.2.2.2).any λu=>
  (Γ.cm&&(Γ.xc.isNone&& !Γ.blk)&&(Γ.N[d.i]?==Z9 v.2.2.2.1)&&(Γ.sc.names.lookup v.2.2.2.1==Z9 .local)&&decide (Γ.N.set d.i "").Nodup)&&
  ((Γ.sc.names.lookup ("":Str)).isNone&&oN Γ v.2.2.1&&Γ.lR.contains (d.c,v.2.2.1)&&oN Γ v.1&&chkL (Γ.tl d u.1) d.t rest)&&
  ((Γ.fns[d.kf]?==Z9 (v.1,v.2.1.length))&&dD Γ d.args v.2.1&& !v.2.1.isEmpty&&(u.2==v.2.2.2.1)&&decide (Γ.N.set d.j "").Nodup)&&
  (decide (d.i≠d.j)&&(Γ.N[d.j]?==Z9 u.1)&&(Γ.sc.names.lookup u.1==Z9 .local)&& !(v.2.2.2.1==("__debug__":Str))&&EK d.t Γ.N.length d.r)
 |_=>Z6
theorem Sv (h:iC Φ n pre d ds=.ok x):∃ρ ys m,aH [] Φ pre (ds.map (λd=>Z9 (.od,d))++b8 (n-ds.length) Z8)=.ok (.nx ρ)/\dC [] Φ d.args ρ=.ok ys/\Φ[d.kf]?=Z9 m/\excOf (m (ys.map (·.2)))=Z9 d.c/\x=(.fr,.bool d.r):=by
 unfold iC at h;split at h
 .rename_i ρ e;split at h
  .rename_i ys e2;split at h
   .rename_i m e3;split at h
    .rename_i hz;cases h;exact⟨ρ,ys,m,e,e2,e3,hz,rfl⟩
    .cases h
   .cases h
  .cases h
 .cases h
theorem Sx:excOf (iC Φ n pre d ds)=none:=by
 unfold iC;split
 .split
  .split
   .split<;>rfl
   .rfl
  .rfl
 .rfl
section
variable {P:bu}{w:World}{K:Z5}{mg:Str->Option Value}{base:Heap}
theorem ztj {Γ:Gm}{Φ:List Fn}{x:Str}{st:Stmt}{ps:List Str}{k:Nat}{pre:S}{d:Gd}{f:Addr}{fd:ko}(Fu:Fun K x x st f fd)(Sc:FnScope Γ.N ps (z08 st))(hs:Γ.sc=z08 st)(hb:Γ.blk=Z6)(hxc:Γ.xc=Z8)(dk:Dok Γ [] Φ P w K mg base k)(hc:zld Γ pre d (z0m st)=Z7):
  FnOk P w K mg base kS (k+1) f fd ps (spD K ps.length (iC Φ Γ.N.length pre d)):=by
 refine Fu.ok Sc (λvs H Q E h=>h.choose_spec.choose_spec.choose_spec.1) λkT A outer s1 H vs Q E hr kR=>?_;obtain⟨B,ds,xx,hl,rs,e,q⟩:=kR;obtain⟨ρ1,ys,m,e1,e2,e3,e4,rfl⟩:=Sv e;generalize Vw:z0m st=bd at hc;unfold zld at hc;split at hc
 .rename_i s0 t rest;obtain⟨h0,k1⟩:=aE hc;obtain⟨⟨f',es,Bn,n,su⟩,hv,k2⟩:=aS k1;obtain⟨⟨y,u2⟩,hu,k3⟩:=aS k2;clear hc k1 k2;obtain⟨p,cp,ep,np,zB,pos,rfl⟩:=Ex hv;obtain⟨k5,h4⟩:=aE k3;obtain⟨h1,h2,h3⟩:=cA k5;obtain⟨a1,a2,a3,a4,a5⟩:=dA h1;obtain⟨b1,b2,b3,b4,b5⟩:=dA h2;obtain⟨c1,c2,c3,c4,c5⟩:=dA h3;obtain⟨d1,d2,d3,d4,d5⟩:=dA h4;obtain⟨Sy,np2,ap,rfl⟩:=Su hu;have Sz:u2=n:=vt c4;clear c4 hu hv k5 k3;subst Sz;obtain⟨e0,es,rfl⟩:=vG c3;have kk:Cok Γ [] Φ (fO kS P w K mg base Γ.N x (z08 st) f kT A outer s1 H E).lI k:=⟨rfl,hs.symm,Sc.nd,λ_ _=>rfl,by rw[hs];exact Sc.kind,dk.free,dk.fns,dk.cst,dk.mH,λ_=>hr,λ_=>rfl,hr.units,λ_=>⟨rfl,rfl⟩,λ_=>rfl,λ_ _ z=>(by rw[hxc]at z;cases z),dk.xk⟩;obtain⟨g1,g2⟩:=kk.gl b4;obtain⟨g3,g4⟩:=kk.gl b2;obtain⟨C,D,m1,m2,x1,x2,sb⟩:=kk.xk.lR d.c Bn b3;obtain⟨m',Vx,Vy,n1,n2,n3⟩:=kk.mH d.kf _ _ (vt c1);rw[e3]at n1;cases n1;have tK:(z08 st).names.lookup y=Z9 .local:=by rw[<-hs];exact vt d3
  obtain⟨g,et⟩:=tells_of d5;have dH:=(Au (Κ:=[]) (Φ:=Φ) pre).R Γ _ k s0 kk PassesOwn.never h0;have eZ:=zlw (T:=tDS K (aH [] [] d.t)) (rest:=rest) (j:=d.j) (y:=y) (i:=d.i) (n:=u2) (c:=d.c) (p:=p) (cp:=cp) (ep:=ep) (np:=np) (hp:=zB) (pos:=pos) (yp:=Sy) (np2:=np2) (ap:=ap) (fs:=dC [] Φ d.args) n3 hr n2 (λE=>(all d.args).A Γ _ k _ (kk.cO E) c2) (pJ c2) g1 g2 (vI [] Φ c2) rfl rfl rfl rfl Sc.nd (vt a3) (by have :=kh.mp b1;rw[hs]at this;exact this) (by have :=vt a4;rw[hs]at this;exact this) (gS d4) (vp a5) (vp d1) (vt d2) tK m1 m2 x1 x2 sb g3 g4 (λa oe hcl=>sL [] [] d.t (Γ.tl d y) (vJ (fO kS P w K mg base Γ.N x (z08 st) f kT A outer s1 H E).lI d.j y a oe) k _ ⟨rfl,hs.symm,vp c5,λ_ _=>rfl,by show Γ.sc.kind=_;rw[hs];exact Sc.kind,dk.free,λj _ _ z=>(by simp[Gm.tl]at z),λj _ z=>(by simp[Gm.tl]at z),λj _ _ z=>(by simp[Gm.tl]at z),λ_=>hr,λ_=>rfl,hr.units,λ_=>⟨rfl,rfl⟩,λz=>(nomatch z),λn' c' z=>(by cases z;exact⟨a,oe,C,rfl,R7,hcl,m1⟩),⟨dk.xk.1,dk.xk.2,dk.xk.3⟩⟩ PassesOwn.never b5);refine⟨_,BA dH eZ,?_⟩;have so:=EB (n:=Γ.N.length) rs;refine⟨_,_,_,so,e1,λσ' H' F' qK ru fr=>⟨_,_,ys,qK,e2,e4,λwo H2 Az z=>⟨_,_,_,R8 Az,et,λv H3 hk rv=>?_⟩⟩⟩;have ev:v=.bl d.r:=rv;subst ev;exact q (.bl d.r) H3 (λa o e=>hk a o (z a o (fr a o e rfl).1)) rfl
 .cases hc
theorem zob {Γ:Gm}{st:Stmt}(Fu:Fun K x x st f fd)(Sc:FnScope Γ.N ps (z08 st)):
  FnOk P w K mg base (An P w base) (k+1) f fd ps (Ap K mg ps.length (iC Φ Γ.N.length pre d)):=by
 obtain⟨oc,od,kV,doc,pm,an,kT,ct,B1,rfl,lk,hcd⟩:=Fu.ex;refine zis lk hcd Sc (λvs H Q E h=>h.choose_spec.choose_spec.choose_spec.1) λA outer s1 H vs Q E hr kR=>?_;obtain⟨B,ds,c,hl,rs,e,q⟩:=kR;rw[Sx]at e;cases e
end
structure XR where
 c:Str
 cs:List (Str×Bool)
 B:Str
def XR.subs (r:XR):List (Str×Str×Bool):=(r.c,"ValueError",Z7)::r.cs.map λy=>(r.c,y.1,y.2)
def AA (K:Z5)(A:Addr):List (Str×Bool)->Prop
 | []=>True
 |y::l=>(∃D dd cd sl,W.nsIn K ce y.1=Z9 (Z9 (.ref D))/\K.lookup D=Z9 ⟨.type "type",dd,.cls cd,sl⟩/\Z4 K (.ref A) (.ref D)=Z9 y.2)/\AA K A l
structure Kx (K:Z5)(r:XR)(A D:Addr):Prop where
 a:W.nsIn K ce r.c=Z9 (Z9 (.ref A))
 l:∃dd cd sl,K.lookup A=Z9 ⟨.type "type",dd,.cls cd,sl⟩
 e:W.excIn K A [.type "ValueError",.type "Exception",.type "BaseException",.type "object"] "ValueError.__new__"=Z7
 cl:W.findIn K (.ref A) "__class__"=Z9 (Z9 (.builtin "object.__class__"))
 ga:W.findIn K (.ref A) "__getattribute__"=Z9 (Z9 (.builtin "BaseException.__getattribute__"))
 gt:W.findIn K (.ref A) "__getattr__"=Z9 Z8
 ob:Z4 K (.ref A) (.type "object")=Z9 Z7
 be:Z4 K (.ref A) (.type "BaseException")=Z9 Z7
 v:Z4 K (.ref A) (.type "ValueError")=Z9 Z7
 b:W.nsIn K ce r.B=Z9 (Z9 (.ref D))
 f:W.excIn K D [.type "ValueError",.type "Exception",.type "BaseException",.type "object"] "ValueError.__new__"=Z7
 s:Z4 K (.ref A) (.ref D)=Z9 Z7
 cs:AA K A r.cs
def vK (K:Z5):List XR->Prop
 | []=>True
 |r::l=>(∃A D,Kx K r A D)/\vK K l
theorem AB {K:Z5}:∀{l:List XR} {r:XR},vK K l->r∈l->∃A D,Kx K r A D
 | [],_,_,z=>nomatch z
 |_::_,_,h,.head _=>h.1
 |_::_,_,h,.tail _ z=>AB h.2 z
theorem Jo {K:Z5}:∀{l:List (Str×Bool)} {y:Str×Bool},AA K A l->y∈l->∃D a cd sl,W.nsIn K ce y.1=Z9 (Z9 (.ref D))/\K.lookup D=Z9 ⟨.type "type",a,.cls cd,sl⟩/\Z4 K (.ref A) (.ref D)=Z9 y.2
 | [],_,_,z=>nomatch z
 |_::_,_,h,.head _=>h.1
 |_::_,_,h,.tail _ z=>Jo h.2 z
theorem AD {K:Z5}{D:Addr}(l:K.lookup D=Z9 ⟨.type "type",a,.cls cd,sl⟩):W.typeIn K (.ref D)=Z9 (.type "type")/\(W.clsIn K D).isSome=true:=by
 constructor
 .show(K.lookup D).map (·.cls)=_;rw[l];rfl
 .unfold W.clsIn;rw[l];rfl
theorem SA {K:Z5}(X:K.In h)(G:h.Ns ce mg)(g:vK K d)(o:d≠[]->mg "ValueError"=Z8)(p:i.sub=(d.map XR.subs).flatten)(t:i.rs=d.map (·.c))(u:i.lR=d.map λr=>(r.c,r.B)):vH i K mg:=by
 refine⟨λc C b z=>?_,λc z=>?_,λc B z=>?_⟩
 .rw[p]at z;obtain⟨l,x,z⟩:=List.mem_flatten.mp (d7.mp z);obtain⟨r,hr,rfl⟩:=bx.mp x;obtain⟨A,D,k⟩:=AB g hr;obtain⟨M,cd,sl,j⟩:=k.l;have xa:XA K A:=⟨k.cl,k.ga,k.gt,k.ob,k.be,(AD j).1,(AD j).2,(Am k.e).1⟩;rcases ay.mp z with e|z
  .cases e;exact⟨A,.ty "ValueError",.type "ValueError",W.mg_of X G k.a,xa,XV.val,k.v,rfl,λw q=>q,.inr ⟨o (λq=>by rw[q]at hr;cases hr),by decide+kernel,by decide⟩⟩
  .obtain⟨y,E,e⟩:=bx.mp z;cases e;obtain⟨m,F,H,I,J,n,L⟩:=Jo k.cs E;exact⟨A,.ref m,.ref m,W.mg_of X G k.a,xa,XV.own (AD n).1 (AD n).2,L,rfl,λw q=>q,.inl (W.mg_of X G J)⟩
 .rw[t]at z;obtain⟨r,hr,rfl⟩:=bx.mp (d7.mp z);obtain⟨A,D,k⟩:=AB g hr;exact⟨A,W.mg_of X G k.a,k.e⟩
 .rw[u]at z;obtain⟨r,hr,e⟩:=bx.mp (d7.mp z);cases e;obtain⟨A,D,k⟩:=AB g hr;exact⟨A,D,W.mg_of X G k.a,W.mg_of X G k.b,(Am k.e).1,(Am k.f).1,k.s⟩
inductive Kd where
 |n
 |g (d:Gd)
inductive Kc where
 |t (ws:List Str)|i (n:Int)
structure aM where
 nm:Str
 st:Stmt
 N:List Str
 ps:List Str
 free:List Str
 fns:List Nat
 s:S
 F:Fn
 kd:Kd
 kc:List (Str×Kc):=[]
def cD (y:Str×Kc):D:=match y.2 with
 |.t ws=>.tuple (ws.map .str)
 |.i n=>.int n
def sig (Rs:List aM)(j:Nat):Str×Nat:=match Rs[j]? with
 |some c=>(c.nm,c.ps.length)
 |none=>("",0)
def fnAt (Rs:List aM)(j:Nat):Fn:=match Rs[j]? with
 |some c=>c.F
 |none=>λ_=>.no
def aM.G (Rs:List aM)(xt:List XR)(r:aM):Gm:={N:=r.N,sc:=z08 r.st,free:=r.free,fns:=r.fns.map (sig Rs),cst:=r.kc.map (·.1),sub:=(xt.map XR.subs).flatten,rs:=xt.map (·.c),lR:=xt.map λr=>(r.c,r.B)}
def aM.part (Rs:List aM)(xt:List XR)(i:Nat)(r:aM):Bool:=match r.kd with
 |.n=>chkL (r.G Rs xt) r.s (z0m r.st)
 |.g d=>zld (r.G Rs xt) r.s d (z0m r.st)&&r.kc.isEmpty
def aM.ok (Rs:List aM)(xt:List XR)(fr:List Str)(i:Nat)(r:aM):Bool:=
 (decide ((z08 r.st).kind=.function)&& !(z08 r.st).isCoroutine&& !(z08 r.st).isGenerator&&decide r.N.Nodup&&decide (r.N.take r.ps.length=r.ps))&&
 (r.ps.all (λx=>(z08 r.st).names.lookup x==Z9 .local||(z08 r.st).names.lookup x==Z9 .cell)&&(z08 r.st).names.all (λy=>!(y.2==.free))&&r.free.all (λx=>fr.contains x)&&r.fns.all (λj=>decide (j<i))&&r.part Rs xt i)
def oks (Rs:List aM)(xt:List XR)(fr:List Str):Nat->List aM->Bool
 |_,[]=>Z7
 |i,r::l=>r.ok Rs xt fr i&&oks Rs xt fr (i+1) l
def aM.AE (Rs:List aM)(r:aM):Prop:=match r.kd with
 |.n=>r.F=aV (r.kc.map cD) (r.fns.map (fnAt Rs)) r.N.length r.s
 |.g d=>r.F=iC (r.fns.map (fnAt Rs)) r.N.length r.s d
def fOks (Rs:List aM):List aM->Prop
 | []=>True
 |r::l=>r.AE Rs/\fOks Rs l
theorem EL:∀{l:List aM} {k i:Nat} {r:aM},oks Rs a fr k l=Z7->l[i]?=Z9 r->r.ok Rs a fr (k+i)=Z7
 | [],_,i,_,_,e=>by simp at e
 |r::l,k,0,_,h,e=>by cases e;exact(aE h).1
 |r::l,k,i+1,_,h,e=>by
  have:=EL (aE h).2 e
  rwa [show k+(i+1)=k+1+i by omega]
theorem EM:∀{l:List aM} {i:Nat} {r:aM},fOks a l->l[i]?=Z9 r->r.AE a
 | [],i,_,_,e=>by simp at e
 |r::l,0,_,h,e=>by cases e;exact h.1
 |r::l,i+1,_,h,e=>EM h.2 e
section
variable {P:bu}{w:World}{K:Z5}{mg:Str->Option Value}{base:Heap}{Rs:List aM}{xt:List XR}{fr:List Str}
theorem vL {r:aM}{i:Nat}(h:r.ok Rs xt fr i=Z7):FnScope (r.G Rs xt).N r.ps (z08 r.st)/\(∀x,r.free.contains x=Z7->fr.contains x=Z7)/\(∀j∈r.fns,j<i)/\r.part Rs xt i=true:=by
 obtain⟨h1,h2⟩:=aE h;obtain⟨a1,a2,a3,a4,a5⟩:=dA h1;obtain⟨b1,b2,b3,b4,b5⟩:=dA h2;refine⟨⟨vp a1,gS a2,gS a3,vp a4,vp a5,λx hx=>?_,λy hy z=>?_⟩,λx hx=>?_,λj hj=>vp (bb.mp b4 j hj),b5⟩
 .rcases gf.mp (bb.mp b1 x hx)with q|q
  .exact .inl (vt q)
  .exact .inr (vt q)
 .have :=gS (bb.mp b2 y hy);rw[z]at this;cases this
 .exact bb.mp b3 x (d7.mp hx)
def AF (P:bu)(w:World)(K:Z5)(mg:Str->Option Value)(base:Heap)(i:Nat)(r:aM):Prop:=Cal P w K mg base (i+1) r.nm r.ps (spD K r.ps.length r.F)/\CalX P w K mg base (i+1) r.nm r.ps r.ps.length r.F
def AG (K:Z5)(mg:Str->Option Value)(y:Str×Kc):Prop:=∃v u,mg y.1=Z9 u/\RelV v u/\∀H B,B Z8->Rep K H B v (cD y)
theorem Jp {r:aM}{i:Nat}(hr:Rs[i]?=Z9 r)(h:r.ok Rs xt fr i=Z7)(T:∀x∈fr,mg x=Z8)(xk:∀Γ:Gm,Γ.sub=(xt.map XR.subs).flatten->Γ.rs=xt.map (·.c)->(Γ.lR=xt.map λr=>(r.c,r.B))->vH Γ K mg)(hC:∀y∈r.kc,AG K mg y)(ih:∀j c,j<i->Rs[j]?=Z9 c->AF P w K mg base j c):Dok (r.G Rs xt) (r.kc.map cD) (r.fns.map (fnAt Rs)) P w K mg base i where
 free:=λx hx=>T x (d7.mp ((vL h).2.1 x hx))
 fns:=λj f n e=>by
  have e:(r.fns.map (sig Rs))[j]?=Z9 (f,n):=e;rw[a9]at e;obtain⟨jj,ej,e⟩:=dq.mp e;have eF:=(vL h).2.2.1 jj (ck ej);have hl:i<Rs.length:=(aq.mp hr).1;have hc:Rs[jj]?=Z9 Rs[jj]:=au (m7 eF hl);unfold sig at e;rw[hc]at e;cases e;refine⟨fnAt Rs jj,jj+1,Rs[jj].ps,by rw[a9,ej];rfl,eF,?_⟩;have:fnAt Rs jj=Rs[jj].F:=by unfold fnAt;rw[hc]
  rw[this];exact(ih jj _ eF hc).1
 cst:=λj x e=>by have e:(r.kc.map (·.1))[j]?=Z9 x:=e;rw[a9]at e;obtain⟨y,ey,rfl⟩:=dq.mp e;obtain⟨v,u,h1,h2,h3⟩:=hC y (ck ey);exact⟨cD y,v,u,by rw[a9,ey];rfl,h1,h2,h3⟩
 mH:=λj f n e=>by
  have e:(r.fns.map (sig Rs))[j]?=Z9 (f,n):=e;rw[a9]at e;obtain⟨jj,ej,e⟩:=dq.mp e;have eF:=(vL h).2.2.1 jj (ck ej);have hl:i<Rs.length:=(aq.mp hr).1;have hc:Rs[jj]?=Z9 Rs[jj]:=au (m7 eF hl);unfold sig at e;rw[hc]at e;cases e;refine⟨fnAt Rs jj,jj+1,Rs[jj].ps,by rw[a9,ej];rfl,eF,?_⟩;have:fnAt Rs jj=Rs[jj].F:=by unfold fnAt;rw[hc]
  rw[this];exact(ih jj _ eF hc).2
 xk:=xk _ rfl rfl rfl
theorem SD (hok:oks Rs xt fr 0 Rs=Z7)(hF:fOks Rs Rs)(T:∀x∈fr,mg x=Z8)(xk:∀Γ:Gm,Γ.sub=(xt.map XR.subs).flatten->Γ.rs=xt.map (·.c)->(Γ.lR=xt.map λr=>(r.c,r.B))->vH Γ K mg)(n:Nat)(hC:∀r∈Rs,∀y∈r.kc,AG K mg y)(O:∀i r,i<n->Rs[i]?=Z9 r->Own K mg r.nm r.st r.ps):∀i r,i<n->Rs[i]?=Z9 r->AF P w K mg base i r:=by
 intro i
 induction i using Nat.strongRecOn with
 |ind i ih=>
  intro r hi hr
  have ho:r.ok Rs xt fr i=true:=by
   have:=EL hok hr
   rwa [c0]at this
  have ih:∀j c,j<i->Rs[j]?=Z9 c->AF P w K mg base j c:=λj c hj hc=>ih j hj c (m7 hj hi) hc;have D:=Jp (P:=P) (w:=w) (K:=K) (base:=base) hr ho T xk (hC r (ck hr)) ih;obtain⟨Sc,Ao,_,hp⟩:=vL ho;have hf:=EM hF hr;obtain⟨f,fd,Fu,m,kp,b⟩:=O i r hi hr;unfold aM.AE at hf;unfold aM.part at hp;unfold AF;cases hk:r.kd with
  |n=>rw[hk]at hf hp;have hf:r.F=_:=hf;show _/\_;rw[hf];exact⟨⟨f,fd,d_fn (Γ:=r.G Rs xt) Fu Sc rfl rfl rfl D hp,m,kp,b⟩,⟨f,fd,zu3 (Γ:=r.G Rs xt) Fu Sc rfl rfl rfl D hp,m,kp,b⟩⟩
  |g d=>rw[hk]at hf hp;obtain⟨p1,p4⟩:=aE hp;have hf:r.F=_:=hf;rw[iJ p4]at D;show _/\_;rw[hf];exact⟨⟨f,fd,ztj (Γ:=r.G Rs xt) Fu Sc rfl rfl rfl D p1,m,kp,b⟩,⟨f,fd,zob (Γ:=r.G Rs xt) Fu Sc,m,kp,b⟩⟩
end
def Kf (K:Z5)(r:aM)(f:Addr)(fd:ko):Prop:=W.nsIn K ce r.nm=Z9 (Z9 (.ref f))/\∃(oc:Value) (od an:Option Addr) (sl:Array (Option Value)) (kV dc pm cd ct:Value),fd=W.fnOf r.nm r.nm (lK r.st) (z0m r.st) (z08 r.st) .none kV dc pm an cd ct/\K.lookup f=Z9 ⟨oc,od,.func fd,sl⟩/\W.codeIn K cd r.nm=Z7/\W.keepIn K (.ref f)=Z7
def EN (r:aM):Prop:=∀(kV doc pm:Value) (an:Option Addr) (kT ct:Value) (us:List Value),us.length=r.ps.length->u4 (W.fnOf r.nm r.nm (lK r.st) (z0m r.st) (z08 r.st) .none kV doc pm an kT ct) ⟨us,[]⟩=pure (r.ps.zip us)
theorem pM (h:b.length=n+1):∃a l,b=a::l/\l.length=n:=by
 cases b with
 |nil=>cases h
 |cons a l=>exact⟨a,l,rfl,Nat.succ.inj h⟩
theorem ym {P:List Value->Prop}(h:∀a,P [a])(b:List Value)(z:b.length=1):P b:=by obtain⟨a,l,rfl,y⟩:=pM z;cases mj y;exact h a
theorem mI {P:List Value->Prop}(h:∀a b,P [a,b])(c:List Value)(z:c.length=2):P c:=by obtain⟨a,l,rfl,y⟩:=pM z;exact ym (P:=λl=>P (a::l)) (h a) l y
theorem tM {P:List Value->Prop}(h:∀a b c,P [a,b,c])(d:List Value)(z:d.length=3):P d:=by obtain⟨a,l,rfl,y⟩:=pM z;exact mI (P:=λl=>P (a::l)) (h a) l y
theorem by4 {P:List Value->Prop}(h:∀a b c d,P [a,b,c,d])(e:List Value)(z:e.length=4):P e:=by obtain⟨a,l,rfl,y⟩:=pM z;exact tM (P:=λl=>P (a::l)) (h a) l y
def kOks (K:Z5):List aM->Prop
 | []=>True
 |r::l=>((∃f fd,Kf K r f fd)/\EN r)/\kOks K l
theorem Jq {K:Z5}:∀{l:List aM} {i:Nat} {r:aM},kOks K l->l[i]?=Z9 r->(∃f fd,Kf K r f fd)/\EN r
 | [],i,_,_,e=>by simp at e
 |r::l,0,_,h,e=>by cases e;exact h.1
 |r::l,i+1,_,h,e=>Jq h.2 e
def strOf:Value->Option Str
 |.str x _=>if Z3 x then Z9 x else Z8
 |_=>Z8
def EO (K:Z5)(y:Str×List Str):Bool:=match W.nsIn K ce y.1 with
 |some (Z9 (.ref a))=>(match K.lookup a with
  |some ⟨.type "tuple",Z8,.seq its _,_⟩=>decide (its.toList.map strOf=y.2.map Z9)&&decide (y.2.length<=1000)
  |_=>Z6)
 |_=>Z6
def yn (K:Z5)(y:Str×Kc):Bool:=match y.2 with
 |.t ws=>EO K (y.1,ws)
 |.i n=>(match W.nsIn K ce y.1 with
  |some (Z9 (.int m _))=>decide (m=n)
  |_=>Z6)
theorem Jr:∀{us:List Value} {ws:List Str},us.map strOf=ws.map Z9->Vals (ws.map V.str) us/\∀w∈ws,Z3 w=Z7
 | [],[],_=>⟨.nil,λ_ h=>by cases h⟩
 | [],_::_,h=>by cases h
 |_::_,[],h=>by cases h
 |u::us,w::ws,h=>by
  obtain⟨c,d⟩:=List.cons.inj h;obtain⟨a,b⟩:=Jr d;cases u with
  |str x t=>
   have c:(if Z3 x then Z9 x else Z8)=Z9 w:=c;split at c
   .rename_i f;cases c;exact⟨.cons ⟨t,rfl⟩ a,λz g=>(ay.mp g).elim (λe=>by rw[e];exact f) (b z)⟩
   .cases c
  |_=>cases c
theorem Js {K:Z5}:∀{ws:List Str},(∀w∈ws,Z3 w=Z7)->Reps K H B (ws.map V.str) (ws.map Z2)
 | [],_=>rfl
 |w::ws,h=>Reps.cons ⟨rfl,h w (.head _)⟩ (Js λz a=>h z (.tail _ a))
theorem SE {K:Z5}(X:K.In h)(G:h.Ns ce mg)(c:EO K y=Z7):AG K mg (y.1,.t y.2):=by
 unfold EO at c;split at c
 .rename_i a ha;split at c
  .rename_i its n sl hl;obtain⟨c1,c2⟩:=aE c;obtain⟨v,ok⟩:=Jr (vp c1);have hz:its.size<=bf:=by have e:=v.length;rw[ae,aw]at e;have:=vp c2;rw[fj];omega
   exact⟨.ref a,.ref a,W.mg_of X G ha,rfl,λH B _=>⟨a,y.2.map V.str,rfl,.inr ⟨_,its,n,hl,rfl,rfl,rfl,hz,v⟩,Js ok⟩⟩
  .cases c
 .cases c
theorem SF {K:Z5}(X:K.In h)(G:h.Ns ce mg)(c:yn K y=Z7):AG K mg y:=by
 obtain⟨x,k⟩:=y;cases k with
 |t ws=>exact SE X G c
 |i n=>
  unfold yn at c
  dsimp only at c
  split at c
  .rename_i m t ha;have e:=vp c;subst e;exact⟨.int m,.int m t,W.mg_of X G ha,⟨t,rfl⟩,λH B _=>rfl⟩
  .cases c
theorem all_rows {l:W.OpenLaw}{K:Z5}(X:K.In h)(G:h.Ns ce mg)(hfa:mg lr.nm=Z9 (.ref fa))(hx:lr.ps=[x])(hkd:lr.kd=.n)(hok:oks (Rs++[lr]) xt fr 0 (Rs++[lr])=Z7)(hF:fOks (Rs++[lr]) (Rs++[lr]))(hK:kOks K Rs)(kl:∃f fd,Kf K lr f fd)
  (hb:∀(kV dc pm:Value) (an:Option Addr) (cd ct:Value) (s:ak) (v:Value),rf s (W.fnOf lr.nm lr.nm (lK lr.st) (z0m lr.st) (z08 lr.st) .none kV dc pm an cd ct) ⟨[v],[]⟩ [(x,v)]) (hz:∀n∈fr,W.nsIn K ce n=Z9 Z8) (SG:vK K xt) (hv:xt≠[]->("ValueError":Str)∈fr) (hC:∀r∈Rs++[lr],∀y∈r.kc,yn K y=Z7):
  ∃fd:ko,(∀(s:ak) (v:Value),rf s fd ⟨[v],[]⟩ [(x,v)])/\∀base:Heap,K.In base->base.Ns ce mg->FnOk l.prog w K mg base kS (Rs.length+1) fa fd [x] (spD K 1 lr.F):=by
 obtain⟨f,fd,a,oc,od,an,sl,kV,dc,pm,cd,ct,rfl,lk,hc,hk⟩:=kl;have e:=hfa.symm.trans (W.mg_of X G a);cases e;have T:=λn hn=>W.mg_none_of X G (hz n hn);have hr:(Rs++[lr])[Rs.length]?=Z9 lr:=by rw[dz (ah _),lm];rfl
 have ho:lr.ok (Rs++[lr]) xt fr Rs.length=true:=by
  have:=EL hok hr
  rwa [c0]at this
 refine⟨_,λs v=>hb kV dc pm an cd ct s v,λbase _ _=>?_⟩;have O:∀i r,i<Rs.length->(Rs++[lr])[i]?=Z9 r->Own K mg r.nm r.st r.ps:=λi r hi e=>by rw[fm hi]at e;obtain⟨⟨f,fd,a,oc,od,an,sl,kV,dc,pm,cd,ct,rfl,lk,hc,hk⟩,hb⟩:=Jq hK e;exact zqh X G a lk hc hk hb
 have xk:∀Γ:Gm,Γ.sub=(xt.map XR.subs).flatten->Γ.rs=xt.map (·.c)->(Γ.lR=xt.map λr=>(r.c,r.B))->vH Γ K mg:=λΓ h1 h2 h3=>SA X G SG (λz=>T _ (hv z)) h1 h2 h3;have hC:=λr hr y hy=>SF X G (hC r hr y hy);have D:=Jp (P:=l.prog) (w:=w) (base:=base) hr ho T xk (hC lr (ax _ (.head _))) λj c hj hc=>SD hok hF T xk Rs.length hC O j c hj hc;have hp:=(vL ho).2.2.2;have hf:=EM hF hr;unfold aM.part at hp;unfold aM.AE at hf;rw[hkd]at hp hf;have:=d_fn (B2 lk hc hk) (vL ho).1 rfl rfl rfl D hp;have e2:aV (lr.kc.map cD) (pv (fnAt (Rs++[lr])) lr.fns) (lr.G (Rs++[lr]) xt).N.length lr.s=lr.F:=hf.symm;rw[e2,hx]at this;exact this
def qS (K:Z5)(r:aM):Option (ko×Bool):=match W.nsIn K ce r.nm with
 |some (Z9 (.ref f))=>(match K.lookup f with
  |some ⟨_,_,.func fd,_⟩=>Z9 (fd,W.codeIn K fd.code r.nm&&W.keepIn K (.ref f))
  |_=>Z8)
 |_=>Z8
def Jt (r:aM)(x:ko×Bool):ko×Bool:=(W.fnOf r.nm r.nm (lK r.st) (z0m r.st) (z08 r.st) .none x.1.kwdefaults x.1.doc x.1.pyModule x.1.annotations x.1.code x.1.closureTuple,Z7)
def yo (K:Z5)(A:Addr):Bool:=match K.lookup A with
 |some ⟨.type "type",_,.cls _,_⟩=>Z7
 |_=>Z6
def yq:List Value:=[.type "ValueError",.type "Exception",.type "BaseException",.type "object"]
def ER (K:Z5)(r:XR):Option (Bool×Bool×Option (Option Value)×Option (Option Value)×Option (Option Value)×Option Bool×Option Bool×Option Bool×Bool×Option Bool×List (Bool×Option Bool)):=match W.nsIn K ce r.c,W.nsIn K ce r.B with
 |some (Z9 (.ref A)),Z9 (Z9 (.ref D))=>Z9 (yo K A,W.excIn K A yq "ValueError.__new__",W.findIn K (.ref A) "__class__",W.findIn K (.ref A) "__getattribute__",W.findIn K (.ref A) "__getattr__",Z4 K (.ref A) (.type "object"),Z4 K (.ref A) (.type "BaseException"),Z4 K (.ref A) (.type "ValueError"),W.excIn K D yq "ValueError.__new__",Z4 K (.ref A) (.ref D),r.cs.map λy=>match W.nsIn K ce y.1 with
  |some (Z9 (.ref E))=>(yo K E,Z4 K (.ref A) (.ref E))
  |_=>(Z6,Z8))
 |_,_=>Z8
def ES (r:XR):Option (Bool×Bool×Option (Option Value)×Option (Option Value)×Option (Option Value)×Option Bool×Option Bool×Option Bool×Bool×Option Bool×List (Bool×Option Bool)):=Z9 (Z7,Z7,Z9 (Z9 (.builtin "object.__class__")),Z9 (Z9 (.builtin "BaseException.__getattribute__")),Z9 Z8,Z9 Z7,Z9 Z7,Z9 Z7,Z7,Z9 Z7,r.cs.map λy=>(Z7,Z9 y.2))
theorem Ju {K:Z5}(h:yo K A=Z7):∃a cd sl,K.lookup A=Z9 ⟨.type "type",a,.cls cd,sl⟩:=by
 unfold yo at h;split at h
 .rename_i a cd sl e;simp_all
 .cases h
theorem zbq {K:Z5}:∀{l:List (Str×Bool)},(l.map fun y=>match W.nsIn K ce y.1 with
  |some (Z9 (.ref E))=>(yo K E,Z4 K (.ref A) (.ref E))
  |_=>(Z6,Z8))=(l.map λy=>(Z7,Z9 y.2))->AA K A l
 | [],_=>trivial
 |y::l,h=>by
  have h:=List.cons.inj h;refine⟨?_,zbq h.2⟩;have e:=h.1
  dsimp only at e
  split at e
  .rename_i E a;have e:=vo e;obtain⟨b,cd,sl,q⟩:=Ju e.1;exact⟨E,b,cd,sl,a,q,e.2⟩
  .cases(vo e).1
theorem SH {K:Z5}(h:ER K r=ES r):∃A D,Kx K r A D:=by
 unfold ER ES at h;split at h
 .rename_i A D k l;have h:=vo (vn h);have b:=vo h.2;have c:=vo b.2;have d:=vo c.2;have e:=vo d.2;have f:=vo e.2;have g:=vo f.2;have i:=vo g.2;have j:=vo i.2;have a:=vo j.2;exact⟨A,D,k,Ju h.1,b.1,c.1,d.1,e.1,f.1,g.1,i.1,l,j.1,a.1,zbq a.2⟩
 .cases h
theorem Jv {K:Z5}:∀{l:List XR},(∀r∈l,∃A D,Kx K r A D)->vK K l
 | [],_=>trivial
 |r::_,h=>⟨h r (.head _),Jv λr a=>h r (.tail _ a)⟩
def KEq (K:i5->Z5)(Rs:List aM)(fr:List Str)(xt:List XR):Prop:=∀P,(Rs.map λr=>(qS (K P) r).isSome,Rs.map λr=>qS (K P) r,fr.map λn=>W.nsIn (K P) ce n,xt.map λr=>ER (K P) r,Rs.map λr=>r.kc.map λy=>yn (K P) y)=(Rs.map λ_=>Z7,Rs.map λr=>(qS (K P) r).map (Jt r),fr.map λ_=>Z9 Z8,xt.map ES,Rs.map λr=>r.kc.map λ_=>Z7)
theorem KEq_r:KEq=KEq:=rfl
theorem SI {K:Z5}(h:(qS K r).isSome=Z7)(e:qS K r=(qS K r).map (Jt r)):∃f fd,Kf K r f fd:=by
 cases z:qS K r with
 |none=>rw[z]at h;cases h
 |some x=>
  rw[z]at e;have e:=vn e;unfold qS at z;split at z
  .rename_i f hf;split at z
   .rename_i oc od fd sl c;have z:=vn z;have d:=congrArg Prod.fst z;have a:=congrArg Prod.snd z;rw[congrArg Prod.snd e]at a;have b:=bj.mp a;subst d;exact⟨f,x.1,hf,oc,od,x.1.annotations,sl,x.1.kwdefaults,x.1.doc,x.1.pyModule,x.1.code,x.1.closureTuple,congrArg Prod.fst e,c,b.1,b.2⟩
   .cases z
  .cases z
theorem yt {K:i5->Z5}(h:KEq K e fr g)(P:i5):(∀r∈e,∃f fd,Kf (K P) r f fd)/\(∀n∈fr,W.nsIn (K P) ce n=Z9 Z8)/\vK (K P) g/\∀r∈e,∀y∈r.kc,yn (K P) y=true:=by have a:=vo (h P);have b:=vo a.2;have c:=vo b.2;have d:=vo c.2;exact⟨λr hr=>SI (jf.mp a.1 r hr) (jf.mp b.1 r hr),λn hn=>jf.mp c.1 n hn,Jv λr hr=>SH (jf.mp d.1 r hr),λr hr=>jf.mp (jf.mp d.2 r hr)⟩
def tN:List aM->Prop
 | []=>True
 |r::l=>EN r/\tN l
theorem Jw {K:Z5}:∀{l:List aM},(∀r∈l,∃f fd,Kf K r f fd)->tN l->kOks K l
 | [],_,_=>trivial
 |r::_,h,b=>⟨⟨h r (.head _),b.1⟩,Jw (λr a=>h r (.tail _ a)) b.2⟩
end Mi
name_quick tkeq for Mi.KEq by Mi.KEq_r
namespace Mk
open Mi
section
open PySem
abbrev P:=List (Str×Int)
def pr (p:Str×Int):D:=.tuple [.str p.1,.int p.2]
def pk (l:P):D:=.tuple (l.map pr)
def ep (p:Str×Int):D×D:=(.str p.1,.int p.2)
def en (l:P):cR:=l.map ep
def cI:P->Str->Option Int
 | [],_=>Z8
 |p::l,n=>if p.1=n then Z9 p.2 else cI l n
def look (l:P)(n:Str):Int:=(cI l n).getD 0
def ks (l:P):List Str:=l.map (·.1)
def put:P->Str->Int->P
 | [],n,v=>[(n,v)]
 |p::l,n,v=>if p.1=n then(p.1,v)::l else p::put l n v
def sl (a b:Str):Prop:=a.cps.toList<b.cps.toList
theorem AH (a:Str):¬sl a a:=List.lt_irrefl _
theorem AI (h:sl a b)(k:sl b c):sl a c:=List.lt_trans h k
theorem ET {b:Str}(h:a.cps.toList=b.cps.toList):a=b:=by cases a;cases b;simp at h;subst h;rfl
theorem AJ (h:a≠b):sl a b\/sl b a:=by
 by_cases c:sl a b
 .exact .inl c
 .by_cases d:sl b a
  .exact .inr d
  .exact(h (ET (List.le_antisymm (List.not_lt.mp d) (List.not_lt.mp c)))).elim
theorem SJ (h:sl a b):a≠b:=λe=>AH b (e▸h)
theorem tO:∀{l:P},n∉ks l->cI l n=Z8
 | [],_=>rfl
 |p::l,h=>by simp only[ks,bp,ay,not_or]at h;rw[cI,vm (λe=>h.1 e.symm)];exact tO h.2
theorem tP:∀{l:P},cI l n=Z9 v->(n,v)∈l
 | [],h=>by cases h
 |p::l,h=>by
  rw[cI]at h;split at h
  .rename_i e;cases h;subst e;simp_all
  .exact ba _ (tP h)
theorem SK (h:cI l n=Z9 v):n∈ks l:=bx.mpr ⟨_,tP h,rfl⟩
theorem yu:∀{l:P} {p:Str×Int},(ks l).Nodup->p∈l->cI l p.1=Z9 p.2
 |q::l,p,nd,h=>by
  rw[ks,bp,cy]at nd;rw[cI];rcases(ay.mp h)with rfl|h
  .rw[vh rfl]
  .rw[vm λe:q.1=p.1=>nd.1 (bx.mpr ⟨p,h,e.symm⟩)];exact yu nd.2 h
theorem Jx (h:n∈ks l):∃v,cI l n=Z9 v:=by
 cases e:cI l n with
 |some v=>exact⟨v,rfl⟩
 |none=>
  exfalso
  induction l with
  |nil=>cases h
  |cons p l a=>
   rw[cI]at e;split at e
   .cases e
   .rename_i hn;rcases ay.mp h with h|h
    .exact hn h.symm
    .exact a h e
theorem Jy (n:Str)(v:Int)(m:Str):∀l,cI (put l n v) m=if n=m then Z9 v else cI l m
 | []=>by simp[put,cI]
 |p::l=>by
  rw[put];split
  .rename_i e;subst e;rw[cI,cI];split<;>rfl
  .rename_i e;rw[cI,cI,Jy n v m l];split
   .rename_i a;rw[vm λz=>e (a.trans z.symm)]
   .rfl
theorem SN (n:Str)(v:Int)(m:Str)(l:P):look (put l n v) m=if n=m then v else look l m:=by rw[look,Jy];split<;>rfl
theorem EU (n:Str)(v:Int):∀l,∀m,m∈ks (put l n v)↔m=n\/m∈ks l
 | [],m=>by simp[put,ks]
 |p::l,m=>by
  rw[put];split
  .rename_i e;subst e;simp[ks]
  .have :=EU n v l m;simp only[ks,bp,ay]at this ⊢;rw[this];constructor
   .rintro(h|h|h)<;>simp[h]
   .rintro(h|h|h)<;>simp[h]
theorem EV (n:Str)(v:Int):∀l,(ks l).Nodup->(ks (put l n v)).Nodup
 | [],_=>by simp[put,ks]
 |p::l,h=>by
  rw[put];split
  .exact h
  .rename_i e;rw[ks,bp,cy]at h ⊢;refine⟨λz=>?_,EV n v l h.2⟩;rcases(EU n v l p.1).mp z with z|z
   .exact e z
   .exact h.1 z
theorem Jz:∀{a b:List Str},a.Nodup->(∀x∈a,x∈b)->a.length<=b.length
 | [],b,_,_=>e8 _
 |x::a,b,nd,h=>by rw[cy]at nd;have hx:=h x a8;have:=Jz nd.2 λy c=>(List.mem_erase_of_ne λe:y=x=>nd.1 (e▸c)).mpr (h y (ba _ c));rw[List.length_erase_of_mem hx]at this;have:0<b.length:=List.length_pos_of_mem hx;simp;omega
theorem AK (a b:Str):eqK (.str a) (.str b)=decide (a=b):=by simp only[eqK]
theorem SO (a:Str):jS (.str a)=true:=by simp only[jS]
theorem JA (n:Str):∀l,gK (en l) (.str n)=(cI l n).map .int
 | []=>rfl
 |p::l=>by
  have a:=JA n l;unfold gK at a ⊢;rw[cI];show Option.map _ (match eqK (.str p.1) (.str n)with|true=>_|false=>_)=_;rw[AK];by_cases h:p.1=n
  .rw[vh h];simp[h,ep]
  .rw[vm h];simp only[h,decide_false];exact a
theorem EW (n:Str):∀l,((en l).any λe=>eqK e.1 (.str n))=Z7↔n∈ks l
 | []=>by simp[en,ks]
 |p::l=>by show(eqK (.str p.1) (.str n)||_)=Z7↔_;rw[AK,fz,ks];have:=EW n l;rw[en,ks]at this;rw[this];simp[eq_comm]
theorem JB:∀{l:P},(ks l).Nodup->n∈ks l->(en l).map (λe=>if eqK e.1 (.str n)then(e.1,.int v)else e)=en (put l n v)
 |p::l,nd,h=>by
  rw[ks,bp,cy]at nd;rw[put];show(if eqK (.str p.1) (.str n)=Z7 then _ else _)::_=_;rw[AK];by_cases e:p.1=n
  .have hn:∀q∈l,¬q.1=n:=λq a z=>nd.1 (bx.mpr ⟨q,a,z.trans e.symm⟩);rw[vh e,vh (by simpa using e)]
   congr 1
   rw[jx];apply se;intro q a;show(if eqK (.str q.1) (.str n)=Z7 then _ else _)=ep q;rw[AK,vm (by simpa using hn q a)]
  .rw[vm e,vm (by simpa using e)]
   congr 1
   refine JB nd.2 ?_;rcases ay.mp h with h|h
   .exact(e h.symm).elim
   .exact h
theorem EX:∀{l:P},n∉ks l->put l n v=l++[(n,v)]
 | [],_=>rfl
 |p::l,h=>by simp only[ks,bp,ay,not_or]at h;rw[put,vm λe=>h.1 e.symm,EX h.2];rfl
theorem JC (nd:(ks l).Nodup):dput (en l) (.str n) (.int v)=en (put l n v):=by
 unfold dput;by_cases h:n∈ks l
 .rw[vh ((EW n l).mpr h)];exact JB nd h
 .rw[vm λz=>h ((EW n l).mp z),EX h];simp[en,ep]
theorem JD:∀l a,(ks (a++l)).Nodup->jT (en a) (l.map pr)=Z9 (en (a++l))
 | [],a,_=>by simp[jT]
 |p::l,a,nd=>by
  have b:=nd;rw[ks,dh]at nd;have c:=λz=>by rw[uo]at nd;exact nd.2.2 _ z _ a8 rfl
  show(if jS (.str p.1)then jT (dput (en a) (.str p.1) (.int p.2)) (l.map pr)else Z8)=_;rw[vh (SO _),JC (by rw[uo]at nd;exact nd.1),EX c,JD l (a++[(p.1,p.2)]) (by rw[c9];exact b),c9];rfl
theorem SQ (nd:(ks l).Nodup):jT [] (l.map pr)=Z9 (en l):=by have:=JD l [] (by simpa using nd);simpa[en]using this
theorem SR (l:P):(en l).map ent=l.map pr:=by rw[en,jx];rfl
theorem JE (l:P):(en l).length=l.length:=by rw[en,ae]
theorem JF (l:P):cG (en l)=true:=by unfold cG;rw[bb];intro e a;obtain⟨p,_,rfl⟩:=bx.mp a;rfl
theorem JG (p:Str×Int):imm (pr p)=true:=rfl
theorem EY (l:P):imms (l.map pr)=true:=zi.mpr λx a=>by obtain⟨p,_,rfl⟩:=bx.mp a;rfl
theorem cS (l:P):imm (pk l)=true:=EY l
theorem SS (n:Nat)(p:Str×Int):shal (n+1) (pr p)=true:=by cases n<;>rfl
theorem EZ (n:Nat)(l:P):shal (n+2) (pk l)=true:=by exact uO.mpr λx a=>by obtain⟨p,_,rfl⟩:=bx.mp a;exact SS n p
theorem SU (l:P):lO (l.map pr)=true:=by
 cases l with
 |nil=>rfl
 |cons p l=>
  unfold lO;have:((p::l).map pr).all (z2l ([Z2 p.1,Z0 p.2].map uP))=true:=by rw[bb];intro x hx;obtain⟨q,_,rfl⟩:=bx.mp hx;rfl
  rw[fz];right;exact bj.mpr ⟨rfl,this⟩
def lp (p q:Str×Int):Bool:=bB (pr p) (pr q)
def iD (x:Str×Int):P->P
 | []=>[x]
 |y::ys=>if lp y x then y::iD x ys else x::y::ys
def pN:P->P
 | []=>[]
 |x::xs=>iD x (pN xs)
theorem JH (x:Str×Int):∀l,dI (pr x) (l.map pr)=(iD x l).map pr
 | []=>rfl
 |y::l=>by
  rw[bp,dI,iD,lp];split
  .rw[JH x l];rfl
  .rfl
theorem JI:∀l,z0r (l.map pr)=(pN l).map pr
 | []=>rfl
 |x::l=>by rw[bp,z0r,JI l,JH,pN]
theorem E1 (x:Str×Int):∀l,(iD x l).Perm (x::l)
 | []=>.refl _
 |y::l=>by
  rw[iD];split
  .exact((E1 x l).cons y).trans (.swap x y l)
  .exact .refl _
theorem E2:∀l,(pN l).Perm l
 | []=>.refl _
 |x::l=>(E1 x (pN l)).trans ((E2 l).cons x)
theorem JJ (h:p.1≠q.1):lp p q=Z7↔sl p.1 q.1:=by
 show bB (.tuple [.str p.1,.int p.2]) (.tuple [.str q.1,.int q.2])=Z7↔_;simp only[bB,aD];have:bT (.str p.1) (.str q.1)=false:=by simp[bT,PyData.eqv,h]
 rw[this];simp[sl]
def Sd (l:P):Prop:=l.Pairwise λp q=>sl p.1 q.1
theorem JK:∀{l:P},Sd l->x.1∉ks l->Sd (iD x l)
 | [],_,_=>ij _ _
 |y::l,h,hx=>by
  have c:=bn.1 h;simp only[ks,bp,ay,not_or]at hx;rw[iD];split
  .rename_i hl;have b:=(JJ (λe=>hx.1 e.symm)).mp hl;refine bn.mpr ⟨λz a=>?_,JK c.2 hx.2⟩;rcases ay.mp ((E1 x l).mem_iff.mp a)with rfl|a
   .exact b
   .exact c.1 z a
  .rename_i hl
   have b:sl x.1 y.1:=by
    rcases AJ hx.1 with z|z
    .exact z
    .exact(hl ((JJ (λe=>hx.1 e.symm)).mpr z)).elim
   refine bn.mpr ⟨λz a=>?_,h⟩;rcases(ay.mp a)with rfl|a
   .exact b
   .exact AI b (c.1 z a)
theorem E3:∀{l:P},(ks l).Nodup->Sd (pN l)
 | [],_=>List.Pairwise.nil
 |x::l,nd=>by rw[ks,bp,cy]at nd;exact JK (E3 nd.2) λz=>nd.1 (((E2 l).map (·.1)).mem_iff.mp z)
theorem AL (h:Sd l):(ks l).Nodup:=by unfold ks List.Nodup;rw[ik];exact List.Pairwise.imp (λz=>SJ z) h
theorem SV (h:a.Perm b)(nd:(ks b).Nodup)(n:Str):cI a n=cI b n:=by
 cases e:cI b n with
 |some v=>exact yu ((List.Perm.nodup_iff (h.map (λp:Str×Int=>p.1))).mpr nd) (h.mem_iff.mpr (tP e))
 |none=>
  cases c:cI a n with
  |none=>rfl
  |some v=>rw[yu nd (h.mem_iff.mp (tP c))]at e;cases e
structure PK (l:P):Prop where
 sd:Sd l
 pos:∀p∈l,0<p.2
theorem PK.nd (h:PK l):(ks l).Nodup:=AL h.sd
theorem PK.nil:PK []:=⟨List.Pairwise.nil,λ_ h=>by cases h⟩
theorem PK.cJ (h:PK l)(n:Str):0<=look l n:=by
 unfold look;cases e:cI l n with
 |none=>exact uu _
 |some v=>exact Int.le_of_lt (h.pos _ (tP e))
theorem PK.key (h:PK l):n∈ks l↔0<look l n:=by
 constructor
 .intro z;obtain⟨v,e⟩:=Jx z;unfold look;rw[e];exact h.pos _ (tP e)
 .intro z;unfold look at z;cases e:cI l n with
  |none=>rw[e]at z;simp_all
  |some v=>exact SK e
theorem PK.aR (h:PK l)(a:p∈l):look l p.1=p.2:=by unfold look;rw[yu h.nd a];rfl
theorem PK.ext:∀{a b:P},PK a->PK b->(∀n,look a n=look b n)->a=b
 | [],[],_,_,_=>rfl
 | [],q::b,_,hb,h=>by have:=h q.1;rw[hb.aR a8]at this;have z:=hb.pos _ a8;rw[<-this]at z;exact absurd z (oz 0)
 |p::a,[],ha,_,h=>by have:=h p.1;rw[ha.aR a8]at this;have z:=ha.pos _ a8;rw[this]at z;exact absurd z (oz 0)
 |p::a,q::b,ha,hb,h=>by
  have no:∀{x y:Str×Int} {l m:P},PK (x::l)->PK (y::m)->(∀n,look (x::l) n=look (y::m) n)->¬sl x.1 y.1:=λ{x y l m} hx f h z=>by
   have e:=h x.1;rw[hx.aR a8]at e;have k:=f.key.mpr (e▸hx.pos _ a8);rcases ay.mp k with k|k
   .exact AH _ (k▸z)
   .obtain⟨w,i,c⟩:=bx.mp k;have:=(bn.mp f.sd).1 w i;rw[c]at this;exact AH _ (AI z this)
  have g:p.1=q.1:=by
   by_cases e:p.1=q.1
   .exact e
   .rcases AJ e with z|z
    .exact(no ha hb h z).elim
    .exact(no hb ha (λn=>(h n).symm) z).elim
  have c:p.2=q.2:=by have:=h p.1;rw[ha.aR a8,g,hb.aR a8]at this;exact this
  have d:=u5 g c;subst d
  congr 1
  refine PK.ext ⟨(bn.mp ha.sd).2,λx hx=>ha.pos x (ba _ hx)⟩ ⟨(bn.mp hb.sd).2,λx hx=>hb.pos x (ba _ hx)⟩ λn=>?_;have hn:=h n;unfold look at hn ⊢;rw[cI,cI]at hn;by_cases e:p.1=n
  .have na:n∉ks a:=by have :=ha.nd;rw[ks,bp,cy]at this;exact e▸this.1
   rw[tO na,tO (by have:=hb.nd;rw[ks,bp,cy]at this;exact e▸this.1)]
  .rw[vm e,vm e]at hn;exact hn
end
section
open PySem
section
variable {Κ:List D}{Φ:List Fn}{ρ:Rho}{a b c t:C}{p q:S}{i:Nat}{f:D->Rho->Res Out}{x:D}{xs:List D}
theorem JL:aH Κ Φ (.seq p q) ρ=lQ (aH Κ Φ p ρ) (aH Κ Φ q):=rfl
theorem E4:aH Κ Φ (.asg (.nm i) t) ρ=(aG Κ Φ t ρ>>=λx=>.ok (.nx (ρ.set i (Z9 (z1s x))))):=rfl
theorem E5:aH Κ Φ (.dJ c p q) ρ=(dN Κ Φ c ρ>>=λk=>if k then aH Κ Φ p ρ else aH Κ Φ q ρ):=rfl
theorem JM:aH Κ Φ (.ret (.var i)) ρ=(match ρ[i]? with|some (Z9 (g,d))=>.ok (.rt (if imm d then .fr else jD g) d)|_=>.no):=rfl
theorem JN:aH Κ Φ (.cF i a b) ρ=(aG Κ Φ b ρ>>=λy=>aG Κ Φ a ρ>>=λx=>match ρ[i]? with
 |some (Z9 (.fr,.dict es))=>if jS x.2&&okIn y&&decide (es.length<bD)then .ok (.nx ((ρ.set i (Z9 (.fr,.dict (dput es x.2 y.2)))).map dV))else .no
 |some (Z9 (.fr,.list xs))=>(match x.2 with
  |.int j=>if okIn y then(match iG xs.length j with|some n=>.ok (.nx ((ρ.set i (Z9 (.fr,.list (xs.set n y.2)))).map dV))|none=>.no)else .no
  |_=>.no)
 |_=>.no):=rfl
theorem JO:aH Κ Φ (.mut m i a) ρ=(dC Κ Φ a ρ>>=λc=>match ρ[i]? with
 |some (Z9 (.fr,.list xs))=>jY m xs c>>=λb=>.ok (.nx ((ρ.set i (Z9 (.fr,.list b))).map dV))
 |_=>.no):=rfl
theorem SW:aH Κ Φ (.bN d a p) e=(evF Κ Φ a e>>=λw=>cY (λx b=>cX d (gJ x w.1,x) b>>=λc=>aH Κ Φ p c) w.2.1 w.2.2):=rfl
theorem JP:cY f (x::xs) ρ=(match f x ρ with
 |.ok (.nx aL)=>cY f xs aL
 |.ok (.rt g d)=>.ok (.rt g d)
 |.exc e=>.exc e
 |.no=>.no):=rfl
theorem JQ:dC Κ Φ .nil ρ=.ok []:=rfl
theorem AM:dC Κ Φ (.cons a b) ρ=(aG Κ Φ a ρ>>=λx=>dC Κ Φ b ρ>>=λxs=>.ok (x::xs)):=rfl
theorem E6:rT Κ Φ (.tv a) ρ=(aG Κ Φ a ρ>>=λx=>rS x.2):=rfl
theorem yw:Co Κ Φ (.tv a) ρ=(aG Κ Φ a ρ>>=λx=>z4y x.2>>=λp=>.ok (x.1,p)):=rfl
theorem E7:dN Κ Φ (.tv a) ρ=(aG Κ Φ a ρ>>=λx=>iQ x.2):=rfl
theorem SX:dN Κ Φ (.and a b) d=(dN Κ Φ a d>>=λc=>if c then dN Κ Φ b d else .ok Z6):=rfl
theorem E8:dN Κ Φ (.or a b) d=(dN Κ Φ a d>>=λc=>if c then .ok Z7 else dN Κ Φ b d):=rfl
theorem SY:dN Κ Φ (.not a) ρ=(dN Κ Φ a ρ>>=λc=>.ok (!c)):=rfl
theorem E9:evW Κ Φ (.tv a) ρ=(aG Κ Φ a ρ>>=λx=>z4z x.2>>=λxs=>.ok (x.1,xs)):=rfl
theorem S0:evW Κ Φ (.iH a) ρ=(dC Κ Φ a ρ>>=λb=>jW (b.map (·.2))>>=λxs=>.ok (.fr,xs)):=rfl
theorem JR:evF Κ Φ (.tv (.var i)) ρ=(if iS ρ i then zk i ρ else if fS Κ Φ (.tv (.var i)) ρ then aG Κ Φ (.var i) ρ>>=λx=>jZ x ρ else nJ Κ Φ (.tv (.var i)) ρ):=rfl
theorem Fb (b:∀i,a≠.var i):evF Κ Φ (.tv a) ρ=(if fS Κ Φ (.tv a) ρ then aG Κ Φ a ρ>>=λx=>jZ x ρ else nJ Κ Φ (.tv a) ρ):=by cases a<;>first|exact absurd rfl (b _)|rfl
end
theorem cT (h:aH Κ Φ a ρ=.ok (.nx aL))(k:aH Κ Φ b aL=r):aH Κ Φ (.seq a b) ρ=r:=by rw[JL,h];exact k
theorem jK (h:aH Κ Φ a ρ=.ok (.rt g d)):aH Κ Φ (.seq a b) ρ=.ok (.rt g d):=by rw[JL,h];rfl
theorem fA (h:aH Κ Φ s (ds.map (λd=>Z9 (.od,d))++b8 (n-ds.length) Z8)=.ok (.rt g d)):aV Κ Φ n s ds=.ok (g,d):=by unfold aV;rw[h]
theorem JS {g i:Type}{m:i->D}(I:g->Rho->Prop)(step:g->i->g):∀(d:List i) a b,(∀a x b,x∈d->I a b->∃c,f (m x) b=.ok (.nx c)/\I (step a x) c)->I a b->∃c,cY f (d.map m) b=.ok (.nx c)/\I (d.foldl step a) c
 | [],a,b,_,h=>⟨b,rfl,h⟩
 |x::d,a,b,hf,h=>by obtain⟨j,e,l⟩:=hf a x b a8 h;obtain⟨k,n,o⟩:=JS I step d (step a x) j (λa y b p=>hf a y b (ba _ p)) l;exact⟨k,by rw[bp,JP,e];exact n,o⟩
theorem JT {k:Type}{m:k->D}(I:List k->Rho->Prop):∀g pre a,(∀b x c a,pre++g=b++x::c->I b a->∃d,f (m x) a=.ok (.nx d)/\I (b++[x]) d)->I pre a->∃d,cY f (g.map m) a=.ok (.nx d)/\I (pre++g) d
 | [],pre,a,_,h=>⟨a,rfl,by rw[e9];exact h⟩
 |x::g,pre,a,hf,h=>by
  obtain⟨i,e,n⟩:=hf pre x g a rfl h;have l:pre++[x]++g=pre++x::g:=by rw[c9];rfl
  obtain⟨j,o,p⟩:=JT I g (pre++[x]) i (λb y c a q=>hf b y c a (l▸q)) n;exact⟨j,by rw[bp,JP,e];exact o,l▸p⟩
theorem JU {b:Type}{m:b->D}(g:b->Option D):∀(a:List b),(∀x∈a,f (m x)=.ok ((g x).map λd=>(.fr,d)))->jX f (a.map m)=.ok ((a.filterMap g).map λd=>(.fr,d))
 | [],_=>rfl
 |x::a,h=>by
  rw[bp,jX,h x a8,JU g a λy c=>h y (ba _ c)];cases e:g x with
  |none=>rw[o0 e];rfl
  |some d=>rw[o5 e];rfl
theorem S4 (a:List D):qE (a.map λd=>(G.fr,d))=.fr:=by unfold qE;rw[vh];rw[List.all_map];exact bb.mpr λ_ _=>rfl
theorem S5 (a:List D):cQ (a.map λd=>(G.fr,d))=.fr:=by unfold cQ;rw[vh];rw[bb];intro x b;obtain⟨d,_,rfl⟩:=bx.mp b;rfl
theorem Fc (a:List D):(a.map λd=>(G.fr,d)).map (λx=>x.2)=a:=by rw[jx];exact List.map_id _
theorem S6 (a b:Int):kU "max" [.int a,.int b]=.ok (.int (max a b)):=rfl
theorem S7 (l:P)(n:Str)(v:Int):mtD "get" (.dict (en l)) [.str n,.int v]=.ok (.int ((cI l n).getD v)):=by have:mtD "get" (.dict (en l)) [.str n,.int v]=.ok ((gK (en l) (.str n)).getD (.int v)):=rfl;rw[this,JA];cases cI l n<;>rfl
theorem Fd (l:P)(n:Str):mtD "get" (.dict (en l)) [.str n,.int 0]=.ok (.int (look l n)):=S7 l n 0
theorem JV (b:Bool)(nd:(ks l).Nodup):aggD "dict" b (l.map pr)=.ok (.dict (en l)):=by show Res.eK ((jT [] (l.map pr)).map PyData.dict)=_;rw[SQ nd];rfl
def chr (z:Str)(i:Int):Str:=⟨#[z.cps.toList.getD i.toNat 0]⟩
theorem yx (z:Str)(i:Int):(chr z i).length=1:=rfl
theorem S8 (a b:Str):(a++b).length=a.length+b.length:=by show Array.size (a.cps++b.cps)=_;rw[ot];rfl
theorem vM {b:Type}(a:List b)(i:Int)(d:b)(h0:0<=i)(c:i<a.length):cW a i=Z9 (a.getD i.toNat d):=by
 unfold cW iG;rw[vh h0,vh c];show a[i.toNat]?=_;have:i.toNat<a.length:=by omega
 rw[am,au this];rfl
theorem BY (h0:0<=i)(a:i<z.length)(b:z.length<=1000):jU (.str z) (.int i)=.ok (.str (chr z i)):=by show(if z.length<=bD then Res.eK ((cW z.cps.toList i).map λc=>Z2 ⟨#[c]⟩)else .no)=_;rw[vh (by unfold bD;omega),vM _ i 0 h0 (aw▸a)];rfl
theorem S9 {ns:List Str}{i:Int}(h0:0<=i)(a:i<ns.length):jU (.list (ns.map .str)) (.int i)=.ok (.str (ns.getD i.toNat ⟨#[]⟩)):=by
 show Res.eK (cW (ns.map Z2) i)=_;rw[vM _ i (.str ⟨#[]⟩) h0 (by rw[ae];exact a)]
 congr 1
 have:i.toNat<ns.length:=by omega
 rw[am,am,a9,au this];rfl
theorem Ta {ns:List Int}{i:Int}(h0:0<=i)(a:i<ns.length):jU (.list (ns.map .int)) (.int i)=.ok (.int (ns.getD i.toNat 0)):=by
 show Res.eK (cW (ns.map Z0) i)=_;rw[vM _ i (.int 0) h0 (by rw[ae];exact a)]
 congr 1
 have:i.toNat<ns.length:=by omega
 rw[am,am,a9,au this];rfl
theorem add_str (h:a.length+b.length<=1000):dM .Add (.str a) (.str b)=.ok (.str (a++b)):=by show(if _ then _ else _)=_;rw[vh (by unfold bD;omega)]
theorem add_list (h:a.length+b.length<=1000):dM .Add (.list a) (.list b)=.ok (.list (a++b)):=by show(if _ then _ else _)=_;rw[vh (by unfold bD;omega)]
theorem JW (h:-(2 ^ 64)<b/\b<2 ^ 64):dM .Mult (.int a) (.int b)=.ok (.int (a*b)):=by show(if _ then _ else _)=_;rw[vh (.inr h)]
theorem vN (h:-(2 ^ 64)<a/\a<2 ^ 64):dM .Mult (.int a) (.int b)=.ok (.int (a*b)):=by show(if _ then _ else _)=_;rw[vh (.inl h)]
theorem kL (h:0<b):dM .Mod (.int a) (.int b)=.ok (.int (a%b)):=by show(if _ then _ else _)=_;rw[vh h]
theorem Tc:dM .Pow (.int 10) (.int 30)=.ok (.int 1000000000000000000000000000000):=rfl
theorem JX (h0:0<=n)(a:n<=1000):jW [.int n]=.ok ((b9 n.toNat).map λ(i:Nat)=>.int i):=by show(if _ then _ else _)=_;rw[vh (by unfold bD;omega)]
theorem Hc (h:z.length<=1000):oM (.str z) i j=.ok (.str (qF z i j)):=by show(if _ then _ else _)=_;rw[vh (by unfold bD;omega)]
theorem JY (ns:List Str):imms (ns.map .str)=true:=zi.mpr λx a=>by obtain⟨p,_,rfl⟩:=bx.mp a;rfl
theorem yy (a b:Int):bT (.int a) (.int b)=decide (a=b):=by rfl
section
variable {Κ:List D}{Φ:List Fn}{ρ:Rho}
theorem yA:aG Κ Φ (.var i) ρ=(zj ρ[i]?):=rfl
theorem Fe:aG Κ Φ (.bl b) a=(.ok (.fr,.bool b)):=rfl
theorem Td:aG Κ Φ (.int i) a=(.ok (.fr,.int i)):=rfl
theorem Te:aG Κ Φ (.str x) a=(.ok (.fr,.str x)):=rfl
theorem Tf:aG Κ Φ (.glob k w1) ρ=(match Κ[k]? with|some d=>if imm d then .ok (.fr,d)else .no|none=>.no):=rfl
theorem JZ:aG Κ Φ (.bin e a b) c=(aG Κ Φ a c>>=λx=>aG Κ Φ b c>>=λy=>dM e x.2 y.2>>=λd=>.ok (gN d (cQ [x,y]),d)):=rfl
theorem Th:aG Κ Φ (.cmp c a b) ρ=(aG Κ Φ a ρ>>=λx=>aG Κ Φ b ρ>>=λy=>cmpD c x.2 y.2>>=λb=>.ok (.fr,.bool b)):=rfl
theorem Ti:aG Κ Φ (.chain e d a b c) ρ=(aG Κ Φ a ρ>>=λx=>aG Κ Φ b ρ>>=λy=>cmpD e x.2 y.2>>=λk=>if k then aG Κ Φ c ρ>>=λz=>cmpD d y.2 z.2>>=λf=>.ok (.fr,.bool f)else .ok (.fr,.bool Z6)):=rfl
theorem Tj:aG Κ Φ (.and a b) d=(aG Κ Φ a d>>=λx=>match x.2 with|.bool c=>if c then aG Κ Φ b d else .ok (.fr,.bool Z6)|_=>.no):=rfl
theorem Tn:aG Κ Φ (.not a) b=(aG Κ Φ a b>>=λx=>iQ x.2>>=λc=>.ok (.fr,.bool (!c))):=rfl
theorem J1:aG Κ Φ (.rR c a b) d=(dN Κ Φ c d>>=λk=>if k then aG Κ Φ a d else aG Κ Φ b d):=rfl
theorem To:aG Κ Φ (.tup b) c=(dC Κ Φ b c>>=λa=>.ok (gJ (.tuple (a.map (·.2))) (cQ a),.tuple (a.map (·.2)))):=rfl
theorem Tq:aG Κ Φ (.lst b) ρ=(dC Κ Φ b ρ>>=λa=>.ok (cQ a,.list (a.map (·.2)))):=rfl
theorem Tr:aG Κ Φ (.iP) ρ=(.ok (.fr,.dict [])):=rfl
theorem Ff:aG Κ Φ (.ix a b) c=(aG Κ Φ a c>>=λx=>aG Κ Φ b c>>=λy=>jU x.2 y.2>>=λd=>.ok (gJ d x.1,d)):=rfl
theorem Fg:aG Κ Φ (.sl a c e) b=(aG Κ Φ a b>>=λx=>rT Κ Φ c b>>=λl=>rT Κ Φ e b>>=λh=>oM x.2 l h>>=λd=>.ok (gN d (cQ [x]),d)):=rfl
theorem Fh:aG Κ Φ (.call k c args) a=(dC Κ Φ args a>>=λb=>match Φ[k]? with|some m=>m (b.map (·.2))>>=λr=>.ok (gJ r.2 (jD r.1),r.2)|none=>.no):=rfl
theorem Fi:aG Κ Φ (.bi f args) a=(dC Κ Φ args a>>=λb=>kU f (b.map (·.2))>>=λd=>.ok (gJ d .al,d)):=rfl
theorem J2:aG Κ Φ (.fB f a) b=(Co Κ Φ a b>>=λw=>aggD f w.2.1 w.2.2>>=λd=>.ok (gJ d (if imms w.2.2 then .fr else agG w.1),d)):=rfl
theorem Ts:aG Κ Φ (.nH a b) ρ=(aG Κ Φ a ρ>>=λx=>.ok (.fr,.bool (b.any λT=>jV (gZ x.2) T))):=rfl
theorem Fj:aG Κ Φ (.mt m o args) a=(aG Κ Φ o a>>=λx=>dC Κ Φ args a>>=λb=>mtD m x.2 (b.map (·.2))>>=λd=>.ok (gJ d .al,d)):=rfl
theorem Tu:aG Κ Φ (.sortI i) ρ=(match ρ[i]? with
 |some (Z9 (_,.dict a))=>if cG a&&lO (a.map ent)&&decide (a.length<64)then .ok (.fr,.list (z0r (a.map ent)))else .no
 |_=>.no):=rfl
theorem Tv {a:C}:aG Κ Φ (.comp f g i h it a c) d=(evW Κ Φ it d>>=λw=>jX (λx=>cX h (gJ x w.1,x) (b8 f Z8++g.map λj=>iR (d.getD j Z8))>>=λb=>dN Κ Φ a b>>=λk=>if k then aG Κ Φ c b>>=λy=>.ok (Z9 y)else .ok Z8) w.2>>=λe=>.ok (qE e,.list (e.map (·.2)))):=rfl
end
section
variable {Κ:List D}{Φ:List Fn}{ρ:Rho}{a b c t o args:C}{x y d:D}{ds:List D}{k k':Bool}{g:G}
def Ev (Κ:List D)(Φ:List Fn)(c:C)(ρ:Rho)(d:D):Prop:=∃g,aG Κ Φ c ρ=.ok (g,d)
def Vv (Κ:List D)(Φ:List Fn)(c:C)(ρ:Rho)(d:D):Prop:=aG Κ Φ c ρ=.ok (.fr,d)/\imm d=Z7
def Aa (Κ:List D)(Φ:List Fn)(c:C)(ρ:Rho)(ds:List D):Prop:=∃ys,dC Κ Φ c ρ=.ok ys/\ys.map (·.2)=ds
def Av (Κ:List D)(Φ:List Fn)(c:C)(ρ:Rho)(ds:List D):Prop:=dC Κ Φ c ρ=.ok (ds.map λd=>(.fr,d))/\imms ds=Z7
def Tt (Κ:List D)(Φ:List Fn)(c:C)(ρ:Rho)(k:Bool):Prop:=dN Κ Φ c ρ=.ok k
theorem Vv.e (h:Vv Κ Φ c ρ d):Ev Κ Φ c ρ d:=⟨_,h.1⟩
theorem Ev.of (h:aG Κ Φ c ρ=.ok (g,d)):Ev Κ Φ c ρ d:=⟨_,h⟩
theorem aC (h:ρ[i]?=Z9 (Z9 (g,d))):Ev Κ Φ (.var i) ρ d:=⟨_,by rw[yA];rw[h];rfl⟩
theorem v_var (h:ρ[i]?=Z9 (Z9 (g,d)))(a:imm d=Z7):Vv Κ Φ (.var i) ρ d:=⟨by rw[yA];rw[h];show Res.ok (if imm d=Z7 then _ else _,d)=_;rw[vh a],a⟩
theorem aN:Vv Κ Φ (.int i) ρ (.int i):=⟨by rw[Td],rfl⟩
theorem iX:Vv Κ Φ (.str i) ρ (.str i):=⟨by rw[Te],rfl⟩
theorem Fl:Vv Κ Φ (.bl i) ρ (.bool i):=⟨by rw[Fe],rfl⟩
theorem qT (a:imm d=Z7):gJ d g=.fr:=by unfold gJ;rw[vh a]
theorem Tw (a:imm d=Z7):gN d g=.fr:=by cases d<;>first|exact qT a|cases a
theorem bQ (ha:Ev Κ Φ a ρ x)(hb:Ev Κ Φ b ρ y)(h:dM op x y=.ok d)(c:imm d=Z7):Vv Κ Φ (.bin op a b) ρ d:=by obtain⟨e,ha⟩:=ha;obtain⟨f,hb⟩:=hb;refine⟨?_,c⟩;rw[JZ];rw[ha,Res.aB,hb,Res.aB];dsimp only;rw[h,Res.aB,Tw c]
theorem Fp (ha:Ev Κ Φ a ρ x)(hb:Ev Κ Φ b ρ y)(h:dM op x y=.ok (.list xs))(hi:imms xs=Z7):aG Κ Φ (.bin op a b) ρ=.ok (.fr,.list xs):=by obtain⟨g1,ha⟩:=ha;obtain⟨g2,hb⟩:=hb;rw[JZ];rw[ha,Res.aB,hb,Res.aB];dsimp only;rw[h];show Res.ok (if imms xs=Z7 then _ else _,_)=_;rw[vh hi]
theorem gD (c:Ev Κ Φ a ρ x)(d:Ev Κ Φ b ρ y)(h:cmpD e x y=.ok k):Vv Κ Φ (.cmp e a b) ρ (.bool k):=by obtain⟨g1,c⟩:=c;obtain⟨g2,d⟩:=d;refine⟨?_,rfl⟩;rw[Th];rw[c,Res.aB,d,Res.aB];dsimp only;rw[h];rfl
theorem v_and (ha:Ev Κ Φ a ρ (.bool k))(hb:k=Z7->Vv Κ Φ b ρ (.bool k')):Vv Κ Φ (.and a b) ρ (.bool (k&&k')):=by
 obtain⟨g1,ha⟩:=ha;refine⟨?_,rfl⟩;rw[Tj];rw[ha];cases k with
 |true=>exact(hb rfl).1
 |false=>rfl
theorem v_not (b:Ev Κ Φ a ρ x)(h:iQ x=.ok k):Vv Κ Φ (.not a) ρ (.bool (!k)):=by obtain⟨c,b⟩:=b;refine⟨?_,rfl⟩;rw[Tn];rw[b,Res.aB];dsimp only;rw[h];rfl
theorem J3 (hc:Tt Κ Φ c ρ k)(h1:k=Z7->Vv Κ Φ a ρ x)(h2:k=Z6->Vv Κ Φ b ρ y):Vv Κ Φ (.rR c a b) ρ (if k then x else y):=by
 cases k with
 |true=>exact⟨by rw[J1];rw[hc];exact(h1 rfl).1,(h1 rfl).2⟩
 |false=>exact⟨by rw[J1];rw[hc];exact(h2 rfl).1,(h2 rfl).2⟩
theorem bS:Av Κ Φ .nil ρ []:=⟨rfl,rfl⟩
theorem aU (ha:Vv Κ Φ a ρ x)(hb:Av Κ Φ b ρ ds):Av Κ Φ (.cons a b) ρ (x::ds):=⟨by rw[AM,ha.1,Res.aB,hb.1];rfl,by show(imm x&&imms ds)=Z7;rw[ha.2,hb.2];rfl⟩
theorem aZ:Aa Κ Φ .nil ρ []:=⟨[],rfl,rfl⟩
theorem aF (ha:Ev Κ Φ a ρ x)(hb:Aa Κ Φ b ρ ds):Aa Κ Φ (.cons a b) ρ (x::ds):=by obtain⟨g1,ha⟩:=ha;obtain⟨ys,hb,e⟩:=hb;exact⟨_,by rw[AM,ha,hb];rfl,by rw[bp,e]⟩
theorem eD (h:Av Κ Φ args ρ ds):Vv Κ Φ (.tup args) ρ (.tuple ds):=by refine⟨?_,h.2⟩;rw[To];rw[h.1,Res.aB,Fc,qT (d:=.tuple ds) h.2]
theorem gE (h:Av Κ Φ args ρ ds):aG Κ Φ (.lst args) ρ=.ok (.fr,.list ds):=by rw[Tq];rw[h.1,Res.aB,Fc,S5]
theorem Tx:aG Κ Φ .iP ρ=.ok (.fr,.dict []):=by rw[Tr]
theorem bJ (c:Ev Κ Φ a ρ x)(e:Ev Κ Φ b ρ y)(h:jU x y=.ok d)(f:imm d=Z7):Vv Κ Φ (.ix a b) ρ d:=by obtain⟨g1,c⟩:=c;obtain⟨g2,e⟩:=e;refine⟨?_,f⟩;rw[Ff];rw[c,Res.aB,e,Res.aB];dsimp only;rw[h,Res.aB,qT f]
def Oo (Κ:List D)(Φ:List Fn)(c:C)(ρ:Rho)(i:Option Int):Prop:=rT Κ Φ c ρ=.ok i
theorem uV:Oo Κ Φ .nil ρ none:=rfl
theorem vO (h:Ev Κ Φ a ρ (.int i)):Oo Κ Φ (.tv a) ρ (Z9 i):=by obtain⟨b,h⟩:=h;unfold Oo;rw[E6,h];rfl
theorem cU (ha:Aa Κ Φ args ρ ds)(hf:Φ[n]?=Z9 m)(h:m ds=.ok (g,d))(hi:imm d=Z7):Vv Κ Φ (.call n f args) ρ d:=by obtain⟨ys,ha,e⟩:=ha;refine⟨?_,hi⟩;rw[Fh];rw[ha,Res.aB,hf];dsimp only;rw[e,h,Res.aB,qT hi]
theorem yj (ha:Aa Κ Φ args ρ ds)(hf:Φ[n]?=Z9 m)(h:m ds=.ok (g,d)):Ev Κ Φ (.call n f args) ρ d:=by obtain⟨ys,ha,e⟩:=ha;exact⟨_,by rw[Fh];rw[ha,Res.aB,hf];dsimp only;rw[e,h,Res.aB]⟩
theorem qU (ha:Aa Κ Φ args ρ ds)(hf:Φ[n]?=Z9 m)(h:m ds=.ok (.fr,.list xs)):aG Κ Φ (.call n f args) ρ=.ok (.fr,.list xs):=by obtain⟨ys,ha,e⟩:=ha;rw[Fh];rw[ha,Res.aB,hf];dsimp only;rw[e,h];rfl
theorem eB (ha:Aa Κ Φ args ρ ds)(h:kU f ds=.ok d)(hi:imm d=Z7):Vv Κ Φ (.bi f args) ρ d:=by obtain⟨ys,ha,e⟩:=ha;refine⟨?_,hi⟩;rw[Fi];rw[ha,Res.aB,e,h,Res.aB,qT hi]
theorem vP (b:Ev Κ Φ a ρ x)(hw:z4y x=.ok w)(h:aggD f w.1 w.2=.ok d)(c:imm d=Z7):Vv Κ Φ (.fB f (.tv a)) ρ d:=by obtain⟨e,b⟩:=b;refine⟨?_,c⟩;rw[J2];rw[yw,b,Res.aB];dsimp only;rw[hw];simp only[Res.aB];rw[h,Res.aB,qT c]
theorem vQ (b:Ev Κ Φ a ρ x)(c:z4y x=.ok w)(h:aggD f w.1 w.2=.ok d)(e:imms w.2=Z7):aG Κ Φ (.fB f (.tv a)) ρ=.ok (.fr,d):=by obtain⟨g1,b⟩:=b;rw[J2];rw[yw,b,Res.aB];dsimp only;rw[c];simp only[Res.aB];rw[h,Res.aB];unfold gJ;split<;>rfl
theorem Tz (ha:Ev Κ Φ a ρ x):Vv Κ Φ (.nH a ts) ρ (.bool (ts.any λT=>jV (gZ x) T)):=by obtain⟨g1,ha⟩:=ha;refine⟨?_,rfl⟩;rw[Ts];rw[ha];rfl
theorem tQ (a:Ev Κ Φ o ρ x)(b:Aa Κ Φ args ρ f)(h:mtD m x f=.ok d)(c:imm d=Z7):Vv Κ Φ (.mt m o args) ρ d:=by obtain⟨g1,a⟩:=a;obtain⟨g,b,e⟩:=b;refine⟨?_,c⟩;rw[Fj];rw[a,Res.aB,b,Res.aB,e];dsimp only;rw[h,Res.aB,qT c]
theorem bM (h:Ev Κ Φ a ρ x)(b:iQ x=.ok k):Tt Κ Φ (.tv a) ρ k:=by obtain⟨g1,h⟩:=h;unfold Tt;rw[E7,h];exact b
theorem Fq:Tt Κ Φ .nil ρ true:=rfl
theorem TB (c:Tt Κ Φ a ρ k)(d:k=Z7->Tt Κ Φ b ρ k'):Tt Κ Φ (.and a b) ρ (k&&k'):=by
 unfold Tt at *
 rw[SX,c];cases k with
 |true=>exact d rfl
 |false=>rfl
theorem tS (ha:Tt Κ Φ a ρ k)(hb:k=Z6->Tt Κ Φ b ρ k'):Tt Κ Φ (.or a b) ρ (k||k'):=by
 unfold Tt at *
 rw[E8,ha];cases k with
 |false=>exact hb rfl
 |true=>rfl
theorem qH (ha:Tt Κ Φ a ρ k):Tt Κ Φ (.not a) ρ (!k):=by
 unfold Tt at *
 rw[SY,ha];rfl
theorem z2e {b:Type}{cond:C}{m:b->D}{xs:List b}(p:b->Bool)(f:b->D)(c:evW Κ Φ it ρ=.ok w)(a:w.2=xs.map m)(r:b->Rho)
  (d:∀x∈xs,cX tg (gJ (m x) w.1,m x) (b8 nt Z8++js.map λj=>iR (ρ.getD j Z8))=.ok (r x)) (hc:∀x∈xs,Tt Κ Φ cond (r x) (p x)) (g:∀x∈xs,p x=Z7->Vv Κ Φ elt (r x) (f x)):
  aG Κ Φ (.comp nt js N' tg it cond elt) ρ=.ok (.fr,.list ((xs.filter p).map f)):=by
 rw[Tv];rw[c,Res.aB,a]
 rw[JU (λx=>if p x then Z9 (f x)else Z8) xs λx a=>by
  rw[d x a,Res.aB];have:=hc x a;rw[this];cases e:p x with
  |true=>rw[(g x a e).1];rfl
  |false=>rfl]
 rw[Res.aB,S4,Fc]
 have:(xs.filterMap λx=>if p x=Z7 then Z9 (f x)else Z8)=(xs.filter p).map f:=by
  clear a d hc g c
  induction xs with
  |nil=>rfl
  |cons x xs h=>
   cases e:p x with
   |true=>rw[o5 (by rw[e];rfl),jq e,bp,h]
   |false=>rw[o0 (by rw[e];rfl),jr (e▸cv),h]
 rw[this]
theorem dE (h:aG Κ Φ a ρ=.ok (g,x))(hw:z4z x=.ok xs):evW Κ Φ (.tv a) ρ=.ok (g,xs):=by rw[E9,h,Res.aB];dsimp only;rw[hw];rfl
theorem TC (h:Aa Κ Φ args ρ ds)(hw:jW ds=.ok xs):evW Κ Φ (.iH args) ρ=.ok (.fr,xs):=by obtain⟨ys,h,e⟩:=h;rw[S0,h,Res.aB,e,hw];rfl
theorem eN (h:Vv Κ Φ t ρ d):aH Κ Φ (.asg (.nm i) t) ρ=.ok (.nx (ρ.set i (Z9 (.al,d)))):=by rw[E4,h.1];show Res.ok (Out.nx (ρ.set i (Z9 (if imm d then(.al,d)else _))))=_;rw[vh h.2]
theorem gF (h:aG Κ Φ t ρ=.ok (.fr,.list xs))(a:imms xs=Z7):aH Κ Φ (.asg (.nm i) t) ρ=.ok (.nx (ρ.set i (Z9 (.fr,.list xs)))):=by rw[E4,h];show Res.ok (Out.nx (ρ.set i (Z9 (if imms xs then .fr else .nu,.list xs))))=_;rw[vh a]
theorem J4 (h:aG Κ Φ t ρ=.ok (.fr,.dict es))(a:cG es=Z7):aH Κ Φ (.asg (.nm i) t) ρ=.ok (.nx (ρ.set i (Z9 (.fr,.dict es)))):=by rw[E4,h];show Res.ok (Out.nx (ρ.set i (Z9 (if cG es then .fr else .nu,.dict es))))=_;rw[vh a]
theorem J5 (hv:∀i,t≠.var i):aH Κ Φ (.ret t) ρ=(aG Κ Φ t ρ>>=λx=>.ok (.rt (jD x.1) x.2)):=by cases t<;>first|exact absurd rfl (hv _)|rfl
theorem iK (h:Vv Κ Φ t ρ d):aH Κ Φ (.ret t) ρ=.ok (.rt .fr d):=by
 by_cases c:∀i,t≠.var i
 .rw[J5 c,h.1];rfl
 obtain⟨i,rfl⟩:∃i,t=.var i:=by cases t<;>first|exact⟨_,rfl⟩|exact(c λi z=>by cases z).elim
 have a:=h.1;rw[yA]at a;rw[JM];cases hr:ρ[i]? with
 |none=>rw[hr]at a;cases a
 |some o=>
  cases o with
  |none=>rw[hr]at a;cases a
  |some gd=>
   obtain⟨g,b⟩:=gd;rw[hr]at a;have:b=d:=by have:=congrArg (λr:Res GD=>match r with|.ok p=>p.2|_=>.none) a;exact this
   subst this;show Res.ok (Out.rt (if imm b=Z7 then _ else _) b)=_;rw[vh h.2]
theorem AN (hv:∀i,t≠.var i)(h:aG Κ Φ t ρ=.ok (.fr,.list xs)):aH Κ Φ (.ret t) ρ=.ok (.rt .fr (.list xs)):=by rw[J5 hv,h];rfl
theorem tT (hc:Tt Κ Φ c ρ k)(h1:k=Z7->aH Κ Φ p ρ=r)(h2:k=Z6->aH Κ Φ q ρ=r):aH Κ Φ (.dJ c p q) ρ=r:=by
 rw[E5,hc];cases k with
 |true=>exact h1 rfl
 |false=>exact h2 rfl
theorem gG:aH Κ Φ .nil ρ=.ok (.nx ρ):=rfl
theorem Fs {y:GD}(h:imm y.2=Z7):okIn y=true:=by unfold okIn;rw[h];rfl
theorem TF (c:Vv Κ Φ b ρ x)(hk:Ev Κ Φ a ρ (.str n))(hr:ρ[i]?=Z9 (Z9 (.fr,.dict es)))(hl:es.length<bD):aH Κ Φ (.cF i a b) ρ=.ok (.nx ((ρ.set i (Z9 (.fr,.dict (dput es (.str n) x)))).map dV)):=by
 obtain⟨d,hk⟩:=hk;rw[JN,c.1,Res.aB,hk,Res.aB,hr]
 dsimp only
 rw[vh];rw[Fs c.2];exact vq hl
theorem TH (c:Vv Κ Φ b ρ (.int v))(hk:Ev Κ Φ a ρ (.str n))(hr:ρ[i]?=Z9 (Z9 (.fr,.dict (en l))))(nd:(ks l).Nodup)(hl:l.length<64):aH Κ Φ (.cF i a b) ρ=.ok (.nx ((ρ.set i (Z9 (.fr,.dict (en (put l n v))))).map dV)):=by rw[TF c hk hr (by rw[JE];unfold bD;omega),JC nd]
theorem AO (hv:Vv Κ Φ a ρ x)(hr:ρ[i]?=Z9 (Z9 (.fr,.list xs)))(hl:xs.length<1000):aH Κ Φ (.mut "append" i (.cons a .nil)) ρ=.ok (.nx ((ρ.set i (Z9 (.fr,.list (xs++[x])))).map dV)):=by
 rw[JO,AM,hv.1,Res.aB,JQ,Res.aB,Res.aB,hr]
 dsimp only
 have:jY "append" xs [(.fr,x)]=.ok (xs++[x]):=by show(if(okIn (G.fr,x)&&decide (xs.length<bD))=Z7 then _ else _)=_;rw[vh];rw[Fs hv.2];refine vq ?_;unfold bD;omega
 rw[this];rfl
theorem TJ (h:ρ[i]?=Z9 (Z9 (g,d)))(hg:g≠.fr)(hi:imm d=Z7)(hw:z4z d=.ok xs):evF Κ Φ (.tv (.var i)) ρ=.ok (.fr,xs,ρ):=by
 have e3:iS ρ i=false:=by
  unfold iS;rw[h];cases g with
  |fr=>exact absurd rfl hg
  |od=>rfl
  |al=>rfl
  |nu=>rfl
 rw[JR,e3];unfold fS nJ;rw[dE ((v_var h hi).1) hw];rfl
theorem mJ (h:ρ[i]?=Z9 (Z9 (.od,d)))(hi:imm d=Z6)(hw:z4z d=.ok xs):evF Κ Φ (.tv (.var i)) ρ=.ok (.od,xs,ρ):=by
 have e1:aG Κ Φ (.var i) ρ=.ok (.od,d):=by rw[yA];rw[h];show Res.ok (if imm d=Z7 then _ else _,d)=_;rw[hi];rfl
 have e3:iS ρ i=false:=by unfold iS;rw[h]
 rw[JR,e3];unfold fS nJ;rw[dE e1 hw];rfl
theorem J6 (h:Aa Κ Φ args ρ ds)(hw:jW ds=.ok xs):evF Κ Φ (.iH args) ρ=.ok (.fr,xs,ρ):=by show nJ Κ Φ (.iH args) ρ=_;unfold nJ;rw[TC h hw];rfl
theorem J7 (hv:∀i,e0≠.var i)(h:aG Κ Φ e0 ρ=.ok (.fr,x'))(hw:z4z x'=.ok xs):evF Κ Φ (.tv e0) ρ=.ok (.fr,xs,ρ):=by
 have e2:=dE h hw;have e3:fS Κ Φ (.tv e0) ρ=false:=by unfold fS;rw[e2];rfl
 rw[Fb hv,e3];unfold nJ;rw[e2];rfl
theorem Ft (h:evF Κ Φ it ρ=.ok w)(k:cY (λx ρ1=>cX t' (gJ x w.1,x) ρ1>>=λbL=>aH Κ Φ p bL) w.2.1 w.2.2=r):aH Κ Φ (.bN t' it p) ρ=r:=by rw[SW,h];exact k
theorem zlf {d k:Type}{m:k->D}{j:List k}(h:evF Κ Φ it ρ=.ok (g,j.map m,ρ1))(I:d->Rho->Prop)(step:d->k->d)(l:d)(h0:I l ρ1)
  (hf:∀a x ρ,x∈j->I a ρ->∃b,(cX n (gJ (m x) g,m x) ρ>>=λc=>aH Κ Φ p c)=.ok (.nx b)/\I (step a x) b) (hk:∀b,I (j.foldl step l) b->aH Κ Φ rest b=r):aH Κ Φ (.seq (.bN n it p) rest) ρ=r:=by
 obtain⟨b,e,i⟩:=JS (f:=λx ρ1=>cX n (gJ x g,x) ρ1>>=λc=>aH Κ Φ p c) I step j l ρ1 hf h0;exact cT (Ft h e) (hk b i)
theorem TK (a:Tt Κ Φ c ρ k)(hk:k=Z7)(h:aH Κ Φ p ρ=.ok (.rt g d)):aH Κ Φ (.seq (.dJ c p q) rest) ρ=.ok (.rt g d):=jK (tT a (λ_=>h) λz=>by rw[hk]at z;cases z)
theorem J8 (hc:Tt Κ Φ c ρ k)(a:k=Z6)(h:aH Κ Φ rest ρ=r):aH Κ Φ (.seq (.dJ c p .nil) rest) ρ=r:=cT (tT hc (λz=>by rw[a]at z;cases z) λ_=>gG) h
theorem z7h (h:ρ[i]?=Z9 (Z9 (.fr,.list xs))):aH Κ Φ (.ret (.var i)) ρ=.ok (.rt .fr (.list xs)):=by rw[JM,h];rfl
theorem aW {Q:Res Out->Prop}(h:aH Κ Φ p ρ=.ok (.nx aL))(k:Q (aH Κ Φ q aL)):Q (aH Κ Φ (.seq p q) ρ):=by rw[cT h rfl];exact k
theorem eX {Q:Res Out->Prop}(h:aH Κ Φ p ρ=.ok (.rt g d))(k:Q (.ok (.rt g d))):Q (aH Κ Φ (.seq p q) ρ):=by rw[jK h];exact k
theorem zrq {Q:Res Out->Prop}{β:Type}{m:β->D}{xs:List β}(h:evF Κ Φ it ρ=.ok (g,xs.map m,ρ1))(I:List β->Rho->Prop)(h0:I [] ρ1)
  (hf:∀pre x post ρ,xs=pre++x::post->I pre ρ->∃aL,(cX t' (gJ (m x) g,m x) ρ>>=λbL=>aH Κ Φ p bL)=.ok (.nx aL)/\I (pre++[x]) aL) (hk:∀aL,I xs aL->Q (aH Κ Φ rest aL)):Q (aH Κ Φ (.seq (.bN t' it p) rest) ρ):=by
 obtain⟨aL,e,i⟩:=JT (f:=λx ρ1=>cX t' (gJ x g,x) ρ1>>=λbL=>aH Κ Φ p bL) I xs [] ρ1 hf h0;rw[cT (Ft h e) rfl];exact hk aL i
theorem zv7 {Q:Res Out->Prop}{d:Type}{m:d->D}{e:List d}(h:evF Κ Φ i ρ=.ok (g,e.map m,f))(I:List d->Rho->Prop)(h0:I [] f)
  (hf:∀pre x b ρ,e=pre++x::b->I pre ρ->∃c a,cX j (gJ (m x) g,m x) ρ=.ok c/\aH Κ Φ p c=.ok (.nx a)/\I (pre++[x]) a) (hk:∀a,I e a->Q (aH Κ Φ rest a)):Q (aH Κ Φ (.seq (.bN j i p) rest) ρ):=
 zrq h I h0 (λpre x b ρ k l=>by obtain⟨c,a,n,o,q⟩:=hf pre x b ρ k l;exact⟨a,by rw[n,Res.aB,o],q⟩) hk
theorem vR {Q:Res Out->Prop}(hc:Tt Κ Φ c ρ k)(hk:k=Z6)(h:Q (aH Κ Φ rest ρ)):Q (aH Κ Φ (.seq (.dJ c p .nil) rest) ρ):=by rw[J8 hc hk rfl];exact h
theorem TL:Vv Κ Φ (.bin .Pow (.int 10) (.int 30)) ρ (.int 1000000000000000000000000000000):=bQ aN.e aN.e Tc rfl
end
end
open PySem
def yB:S:=(.seq (.dJ (.not (.and (.tv (.nH (.var 0) ["str"])) (.tv (.cmp .In (.var 0) (.tup (.cons (.str "for") (.cons (.str "against") .nil)))))))
 (.seq (.qD "NoSide")
 .nil)
 .nil)
 .nil)
def tU:Fn:=aV [] [] 1 yB
def yC:S:=(.seq (.drop (.call 0 "check_side" (.cons (.var 1) .nil)))
 (.seq (.ret (.rR (.tv (.cmp .Eq (.var 1) (.str "for"))) (.ix (.var 0) (.int 0)) (.ix (.var 0) (.int 1))))
 .nil))
def pO:Fn:=aV [] [tU] 2 yC
def yD:S:=(.seq (.asg (.nm 1) .iP)
 (.seq (.bN (.tp [2,3]) (.tv (.var 0))
 (.seq (.cF 1 (.var 2) (.bi "max" (.cons (.var 3) (.cons (.mt "get" (.var 1) (.cons (.var 2) (.cons (.int 0) .nil))) .nil))))
 .nil))
 (.seq (.ret (.fB "tuple" (.tv (.comp 1 [] ["pair"] (.nm 0) (.tv (.sortI 1)) (.tv (.cmp .Gt (.ix (.var 0) (.int 1)) (.int 0))) (.var 0)))))
 .nil)))
def tV:Fn:=aV [] [] 4 yD
def yE:S:=(.seq (.ret (.mt "get" (.fB "dict" (.tv (.var 0))) (.cons (.var 1) (.cons (.int 0) .nil)))) .nil)
def kM:Fn:=aV [] [] 2 yE
def yF:S:=(.seq (.asg (.nm 2) (.fB "dict" (.tv (.var 1))))
 (.seq (.ret (.comp 2 [2] ["name","amount","held"] (.tp [0,1]) (.tv (.var 0)) (.tv (.cmp .Gt (.var 1) (.mt "get" (.var 2) (.cons (.var 0) (.cons (.int 0) .nil))))) (.var 0)))
 .nil))
def mK:Fn:=aV [] [] 3 yF
def yG:S:=(.seq (.ret (.cmp .Eq (.call 0 "over" (.cons (.var 0) (.cons (.var 1) .nil))) (.lst .nil))) .nil)
def iE:Fn:=aV [] [mK] 2 yG
def yH:S:=(.seq (.ret (.call 0 "greatest" (.cons (.bin .Add (.var 0) (.var 1)) .nil))) .nil)
def pP:Fn:=aV [] [tV] 2 yH
def yI:S:=(.seq (.ret (.not (.fB "any" (.tv (.comp 1 [0] ["rival","one"] (.nm 0) (.tv (.var 1)) .nil (.and (.cmp .NotEq (.var 0) (.var 1)) (.call 0 "within" (.cons (.var 0) (.cons (.var 1) .nil))))))))) .nil)
def pQ:Fn:=aV [] [iE] 2 yI
def yJ:S:=(.seq (.asg (.nm 3) (.ix (.var 2) (.int 0)))
 (.seq (.asg (.nm 4) (.comp 1 [3,2] ["one","name","step"] (.nm 0) (.tv (.var 0)) (.tv (.cmp .Eq (.call 2 "degree" (.cons (.var 0) (.cons (.var 1) .nil))) (.ix (.var 2) (.int 1)))) (.var 0)))
 (.seq (.mut "extend" 4 (.cons (.comp 1 [2,3] ["one","step","name"] (.nm 0) (.tv (.var 1)) (.tv (.cmp .Gt (.call 2 "degree" (.cons (.var 0) (.cons (.var 2) .nil))) (.int 0))) (.call 1 "join" (.cons (.var 0) (.cons (.tup (.cons (.var 1) .nil)) .nil)))) .nil))
 (.seq (.asg (.nm 5) (.comp 1 [2] ["one","step"] (.nm 0) (.tv (.var 1)) .nil (.call 1 "join" (.cons (.var 0) (.cons (.tup (.cons (.var 1) .nil)) .nil)))))
 (.seq (.ret (.comp 1 [4] ["one","rivals"] (.nm 0) (.tv (.var 5)) (.tv (.call 0 "is_least" (.cons (.var 0) (.cons (.var 1) .nil)))) (.var 0)))
 .nil)))))
def pR:Fn:=aV [] [pQ,pP,kM] 6 yJ
def tW:S:=(.seq (.asg (.nm 3) (.comp 1 [2] ["one","reach"] (.nm 0) (.tv (.var 0)) (.not (.tv (.call 3 "within" (.cons (.var 0) (.cons (.var 1) .nil))))) (.var 0)))
 (.seq (.asg (.nm 4) (.comp 1 [2] ["one","reach"] (.nm 0) (.tv (.var 0)) (.tv (.call 3 "within" (.cons (.var 0) (.cons (.var 1) .nil)))) (.var 0)))
 (.seq (.asg (.nm 5) (.fB "list" (.tv (.var 3))))
 (.seq (.bN (.nm 6) (.tv (.call 0 "over" (.cons (.var 1) (.cons (.var 2) .nil))))
 (.seq (.mut "extend" 5 (.cons (.call 1 "lifted" (.cons (.var 3) (.cons (.var 4) (.cons (.tup (.cons (.var 6) (.cons (.bin .Add (.call 2 "degree" (.cons (.var 2) (.cons (.var 6) .nil))) (.int 1)) .nil))) .nil)))) .nil))
 .nil))
 (.seq (.ret (.var 5))
 .nil)))))
def mL:Fn:=aV [] [mK,pR,kM,iE] 7 tW
def vS:S:=(.seq (.asg (.nm 3) (.call 1 "side_of" (.cons (.var 1) (.cons (.var 2) .nil))))
 (.seq (.asg (.nm 4) (.lst (.cons (.tup .nil) .nil)))
 (.seq (.bN (.nm 5) (.tv (.var 0))
 (.seq (.dJ (.and (.tv (.cmp .NotEq (.ix (.var 5) (.int 1)) (.var 2))) (.tv (.call 0 "within" (.cons (.ix (.var 5) (.int 2)) (.cons (.call 1 "side_of" (.cons (.var 1) (.cons (.ix (.var 5) (.int 1)) .nil))) .nil)))))
 (.seq (.asg (.nm 4) (.call 2 "beyond" (.cons (.var 4) (.cons (.var 3) (.cons (.call 1 "side_of" (.cons (.ix (.var 5) (.int 0)) (.cons (.var 2) .nil))) .nil)))))
 .nil)
 .nil)
 (.seq (.dJ (.tv (.cmp .Gt (.bi "len" (.cons (.var 4) .nil)) (.glob 0 "MOST_REASONS")))
 (.seq (.qD "TooMuch")
 .nil)
 .nil)
 .nil)))
 (.seq (.ret (.fB "sorted" (.tv (.var 4))))
 .nil))))
def mM:Fn:=aV [(.int 100)] [iE,pO,mL] 6 vS
def Fv:S:=(.seq (.asg (.nm 2) (.bin .Add (.bin .Add (.bin .Mod (.var 0) (.int 1000000007)) (.bin .Mult (.int 31) (.var 1))) (.int 1)))
 (.seq (.ret (.bin .Mod (.bin .Mult (.bin .Mod (.bin .Mult (.var 2) (.var 2)) (.int 2147483629)) (.bin .Add (.var 1) (.int 7))) (.int 2147483647)))
 .nil))
def fG:Fn:=aV [] [] 3 Fv
def AQ:S:=(.seq (.dJ (.tv (.cmp .Lt (.var 1) (.bi "len" (.cons (.var 0) .nil))))
 (.seq (.ret (.ix (.var 0) (.var 1)))
 .nil)
 .nil)
 (.seq (.ret (.bin .Add (.bin .Mult (.int 3) (.var 1)) (.int 1)))
 .nil))
def mO:Fn:=aV [] [] 2 AQ
def Fw:S:=(.seq (.asg (.nm 1) (.int 1))
 (.seq (.bN (.nm 2) (.tv (.var 0))
 (.seq (.asg (.nm 1) (.bin .Mult (.var 1) (.var 2)))
 .nil))
 (.seq (.ret (.var 1))
 .nil)))
def pS:Fn:=aV [] [] 3 Fw
def AR:S:=(.seq (.asg (.nm 1) (.lst .nil))
 (.seq (.wh 100000 (.tv (.cmp .Lt (.call 0 "_law_product" (.cons (.var 1) .nil)) (.int 10)))
 (.seq (.mut "append" 1 (.cons (.bin .Add (.int 2) (.bin .Mod (.call 1 "_law_mix" (.cons (.call 2 "_law_cell_at" (.cons (.var 0) (.cons (.bi "len" (.cons (.var 1) .nil)) .nil))) (.cons (.int 1) .nil))) (.int 2))) .nil))
 .nil))
 (.seq (.ret (.var 1))
 .nil)))
def AS:Fn:=aV [] [pS,fG,mO] 2 AR
def Fx:S:=(.seq (.asg (.nm 2) (.str "bcdfghjklmnpqrstvwxyz"))
 (.seq (.asg (.nm 3) (.lst .nil))
 (.seq (.bN (.nm 4) (.iH (.cons (.var 1) .nil))
 (.seq (.asg (.nm 5) (.ix (.var 2) (.bin .Mod (.bin .Add (.bin .Mult (.int 3) (.bin .Mod (.var 4) (.int 7))) (.bin .Mod (.bin .FloorDiv (.var 0) (.int 21)) (.int 3))) (.int 21))))
 (.seq (.mut "append" 3 (.cons (.bin .Add (.bin .Add (.ix (.var 2) (.bin .Mod (.var 0) (.int 21))) (.ix (.var 2) (.bin .FloorDiv (.var 4) (.int 7)))) (.var 5)) .nil))
 .nil)))
 (.seq (.ret (.fB "sorted" (.tv (.var 3))))
 .nil))))
def AU:Fn:=aV [] [] 6 Fx
def AV:S:=(.seq (.asg (.nm 2) (.lst .nil))
 (.seq (.bN (.nm 3) (.iH (.cons (.bi "len" (.cons (.var 1) .nil)) .nil))
 (.seq (.asg (.nm 4) (.ix (.lst (.cons (.int 1) (.cons (.int 5) (.cons (.bin .Pow (.int 10) (.int 30)) .nil)))) (.bin .Mod (.call 0 "_law_mix" (.cons (.call 1 "_law_cell_at" (.cons (.var 0) (.cons (.var 3) .nil))) (.cons (.int 2) .nil))) (.int 3))))
 (.seq (.mut "append" 2 (.cons (.tup (.cons (.ix (.var 1) (.var 3)) (.cons (.bin .Add (.int 1) (.bin .Mod (.bin .Mult (.call 0 "_law_mix" (.cons (.call 1 "_law_cell_at" (.cons (.var 0) (.cons (.var 3) .nil))) (.cons (.int 3) .nil))) (.int 1000000000000000000007)) (.var 4))) .nil))) .nil))
 .nil)))
 (.seq (.ret (.fB "tuple" (.tv (.var 2))))
 .nil)))
def AW:Fn:=aV [] [fG,mO] 5 AV
def AX:S:=(.seq (.asg (.nm 4) (.lst .nil))
 (.seq (.bN (.nm 5) (.iH (.cons (.bi "len" (.cons (.var 0) .nil)) .nil))
 (.seq (.asg (.tp [6,7]) (.ix (.var 0) (.var 5)))
 (.seq (.dJ (.tv (.chain .LtE .Lt (.var 1) (.var 5) (.bin .Add (.var 1) (.var 2))))
 (.seq (.asg (.nm 7) (.bin .Mod (.bin .Mult (.call 0 "_law_mix" (.cons (.var 3) (.cons (.var 5) .nil))) (.int 100000000000000000039)) (.var 7)))
 .nil)
 .nil)
 (.seq (.dJ (.tv (.cmp .Gt (.var 7) (.int 0)))
 (.seq (.mut "append" 4 (.cons (.tup (.cons (.var 6) (.cons (.var 7) .nil))) .nil))
 .nil)
 .nil)
 .nil))))
 (.seq (.ret (.fB "tuple" (.tv (.var 4))))
 .nil)))
def yK:Fn:=aV [] [fG] 8 AX
def AY:S:=(.seq (.asg (.nm 4) (.lst .nil))
 (.seq (.asg (.nm 5) (.int 0))
 (.seq (.asg (.nm 6) (.ix (.lst (.cons (.str "against") (.cons (.str "for") .nil))) (.var 3)))
 (.seq (.asg (.nm 7) (.tup (.cons (.tup (.cons (.str "q") (.cons (.int 2) .nil))) (.cons (.tup (.cons (.str "z") (.cons (.int 7) .nil))) .nil))))
 (.seq (.bN (.nm 8) (.iH (.cons (.bi "len" (.cons (.var 2) .nil)) .nil))
 (.seq (.asg (.nm 9) (.call 2 "_law_bar" (.cons (.var 1) (.cons (.var 5) (.cons (.ix (.var 2) (.var 8)) (.cons (.call 1 "_law_cell_at" (.cons (.var 0) (.cons (.bin .Add (.int 20) (.var 8)) .nil))) .nil))))))
 (.seq (.asg (.nm 10) (.ix (.lst (.cons (.tup .nil) (.cons (.tup (.cons (.tup (.cons (.str "q") (.cons (.int 1) .nil))) .nil)) (.cons (.var 7) (.cons (.tup (.cons (.tup (.cons (.str "z") (.cons (.int 7) .nil))) .nil)) .nil))))) (.bin .Mod (.call 0 "_law_mix" (.cons (.call 1 "_law_cell_at" (.cons (.var 0) (.cons (.bin .Add (.int 30) (.var 8)) .nil))) (.cons (.int 4) .nil))) (.int 4))))
 (.seq (.asg (.nm 11) (.lst (.cons (.var 7) (.cons (.var 7) .nil))))
 (.seq (.cF 11 (.var 3) (.var 9))
 (.seq (.mut "append" 4 (.cons (.tup (.cons (.tup (.cons (.ix (.var 11) (.int 0)) (.cons (.ix (.var 11) (.int 1)) .nil))) (.cons (.var 6) (.cons (.var 10) .nil)))) .nil))
 (.seq (.asg (.nm 5) (.bin .Add (.var 5) (.ix (.var 2) (.var 8))))
 .nil)))))))
 (.seq (.ret (.var 4))
 .nil))))))
def AZ:Fn:=aV [] [fG,mO,yK] 12 AY
def J9:S:=(.asg (.nm 3) .bU)
def TM:S:=(.seq (.dJ (.or (.not (.tv (.gW Z7 "TooMuch"))) (.not (.tv (.gW Z7 "ValueError"))))
 (.seq (.ret (.bl Z6))
 .nil)
 .nil)
 (.seq (.asg (.nm 5) (.lst (.cons (.gW Z6 "NoPack") (.cons (.gW Z6 "NoSide") (.cons (.gW Z6 "NoReason") .nil)))))
 (.seq (.asg (.nm 5) (.bin .Add (.var 5) (.lst (.cons (.gW Z6 "NoCourt") (.cons (.gW Z6 "Late") (.cons (.gW Z6 "NotAllowed") .nil))))))
 (.seq (.asg (.nm 5) (.bin .Add (.var 5) (.lst (.cons (.gW Z6 "NoRuling") (.cons (.gW Z6 "NotYours") (.cons (.gW Z6 "NoRow") .nil))))))
 (.seq (.asg (.nm 5) (.bin .Add (.var 5) (.lst (.cons (.gW Z6 "Twice") (.cons (.gW Z6 "Unknown") .nil)))))
 (.seq (.ret (.cmp .NotIn (.bl Z7) (.var 5)))
 .nil))))))
def J':Gd:=⟨0,(.cons (.var 0) (.cons (.var 1) (.cons (.var 2) .nil))),"TooMuch",4,3,TM,Z7⟩
def yL:Fn:=iC [mM] 6 J9 J'
def Fy:S:=(.seq (.asg (.nm 3) (.comp 1 [] ["_law_pair"] (.nm 0) (.tv (.var 1)) .nil (.ix (.var 0) (.int 0))))
 (.seq (.asg (.nm 4) (.int 0))
 (.seq (.bN (.nm 5) (.tv (.var 2))
 (.seq (.dJ (.tv (.cmp .NotEq (.bi "len" (.cons (.comp 1 [3,4,5] ["_law_pair","_law_words_here","_law_first","_law_size"] (.nm 0) (.tv (.var 0)) (.tv (.cmp .In (.ix (.var 0) (.int 0)) (.sl (.var 1) (.tv (.var 2)) (.tv (.bin .Add (.var 2) (.var 3)))))) (.var 0)) .nil)) (.int 1)))
 (.seq (.ret (.bl Z6))
 .nil)
 .nil)
 (.seq (.asg (.nm 4) (.bin .Add (.var 4) (.var 5)))
 .nil)))
 (.seq (.ret (.cmp .Eq (.bi "len" (.cons (.var 0) .nil)) (.bi "len" (.cons (.var 2) .nil))))
 .nil))))
def A0:Fn:=aV [] [] 6 Fy
def Fz:S:=(.seq (.dJ (.or (.not (.tv (.nH (.var 0) ["list"]))) (.or (.tv (.cmp .NotEq (.bi "len" (.cons (.var 0) .nil)) (.call 1 "_law_product" (.cons (.var 2) .nil)))) (.tv (.cmp .NotEq (.var 0) (.fB "sorted" (.tv (.var 0)))))))
 (.seq (.ret (.bl Z6))
 .nil)
 .nil)
 (.seq (.bN (.nm 3) (.tv (.var 0))
 (.seq (.dJ (.not (.tv (.call 0 "_law_picked" (.cons (.var 3) (.cons (.var 1) (.cons (.var 2) .nil))))))
 (.seq (.ret (.bl Z6))
 .nil)
 .nil)
 .nil))
 (.seq (.ret (.bl Z7))
 .nil)))
def yM:Fn:=aV [] [A0,pS] 4 Fz
def FA:S:=(.seq (.asg (.nm 1) (.call 8 "_law_sizes" (.cons (.var 0) .nil)))
 (.seq (.asg (.nm 2) (.bin .FloorDiv (.int 100) (.call 7 "_law_product" (.cons (.var 1) .nil))))
 (.seq (.asg (.nm 3) (.bin .Mod (.call 6 "_law_mix" (.cons (.fB "sum" (.tv (.sl (.var 0) .nil (.tv (.int 63))))) (.cons (.int 6) .nil))) (.int 2)))
 (.seq (.asg (.nm 4) (.call 4 "_law_room" (.cons (.var 0) (.cons (.call 5 "_law_words" (.cons (.call 6 "_law_mix" (.cons (.fB "sum" (.tv (.sl (.var 0) .nil (.tv (.int 63))))) (.cons (.int 7) .nil))) (.cons (.bin .Add (.bin .Add (.fB "sum" (.tv (.var 1))) (.var 2)) (.int 1)) .nil))) .nil))))
 (.seq (.asg (.nm 5) (.lst (.cons (.tup (.cons (.tup (.cons (.str "q") (.cons (.int 2) .nil))) (.cons (.tup (.cons (.str "z") (.cons (.int 7) .nil))) .nil))) (.cons (.tup (.cons (.tup (.cons (.str "q") (.cons (.int 2) .nil))) (.cons (.tup (.cons (.str "z") (.cons (.int 7) .nil))) .nil))) .nil))))
 (.seq (.cF 5 (.var 3) (.var 4))
 (.seq (.asg (.nm 5) (.tup (.cons (.ix (.var 5) (.int 0)) (.cons (.ix (.var 5) (.int 1)) .nil))))
 (.seq (.asg (.nm 6) (.ix (.lst (.cons (.str "for") (.cons (.str "against") .nil))) (.var 3)))
 (.seq (.asg (.nm 7) (.call 2 "_law_book" (.cons (.var 0) (.cons (.var 4) (.cons (.bin .Add (.var 1) (.lst (.cons (.var 2) .nil))) (.cons (.var 3) .nil))))))
 (.seq (.bN (.nm 8) (.tv (.lst (.cons (.int 0) (.cons (.int 1) (.cons (.bi "len" (.cons (.var 1) .nil)) (.cons (.bin .Add (.bi "len" (.cons (.var 1) .nil)) (.int 1)) .nil))))))
 (.seq (.dJ (.not (.tv (.call 3 "_law_told_well" (.cons (.call 0 "least_reasons" (.cons (.sl (.var 7) .nil (.tv (.var 8))) (.cons (.var 5) (.cons (.var 6) .nil)))) (.cons (.var 4) (.cons (.sl (.bin .Add (.var 1) (.lst (.cons (.var 2) .nil))) .nil (.tv (.var 8))) .nil))))))
 (.seq (.ret (.bl Z6))
 .nil)
 .nil)
 .nil))
 (.seq (.asg (.nm 7) (.call 2 "_law_book" (.cons (.var 0) (.cons (.var 4) (.cons (.bin .Add (.var 1) (.lst (.cons (.bin .Add (.var 2) (.int 1)) .nil))) (.cons (.var 3) .nil))))))
 (.seq (.dJ (.or (.not (.tv (.call 1 "_law_too_much" (.cons (.var 7) (.cons (.var 5) (.cons (.var 6) .nil)))))) (.not (.tv (.call 1 "_law_too_much" (.cons (.bin .Add (.var 7) (.sl (.var 7) .nil (.tv (.int 1)))) (.cons (.var 5) (.cons (.var 6) .nil)))))))
 (.seq (.ret (.bl Z6))
 .nil)
 .nil)
 (.seq (.asg (.nm 9) (.tup (.cons (.var 5) (.cons (.ix (.ix (.var 7) (.int 0)) (.int 1)) (.cons (.tup .nil) .nil)))))
 (.seq (.ret (.and (.call 1 "_law_too_much" (.cons (.bin .Add (.var 7) (.lst (.cons (.var 9) .nil))) (.cons (.var 5) (.cons (.var 6) .nil)))) (.cmp .Eq (.call 0 "least_reasons" (.cons (.bin .Add (.lst (.cons (.var 9) .nil)) (.var 7)) (.cons (.var 5) (.cons (.var 6) .nil)))) (.lst .nil))))
 .nil))))))))))))))
def yN:Fn:=aV [] [mM,yL,AZ,yM,AW,AU,fG,pS,AS] 10 FA
theorem TN (h:ρ[i]?=Z9 (Z9 (g,.dict (en l))))(hl:l.length<64):aG Κ Φ (.sortI i) ρ=.ok (.fr,.list ((pN l).map pr)):=by rw[Tu];rw[h];dsimp only;rw[JF,SR,SU,JE,JI];simp only[hl,decide_true,sr,if_true]
def vT (acc:P)(l:P):P:=l.foldl (λa p=>put a p.1 (max p.2 (look a p.1))) acc
theorem FC:∀l a,(ks a).Nodup->(ks (vT a l)).Nodup
 | [],_,h=>h
 |p::l,a,h=>FC l _ (EV _ _ _ h)
theorem Ka (n:Str):∀l a,look (vT a l) n=l.foldl (λm p=>if p.1=n then max p.2 m else m) (look a n)
 | [],_=>rfl
 |p::l,a=>by
  have b:vT a (p::l)=vT (put a p.1 (max p.2 (look a p.1))) l:=rfl;rw[b,Ka n l,kt,SN];split
  .rename_i e;rw[e]
  .rfl
theorem A1 (n:Str):∀(l:P) (m:Int),PK l->0<=m->l.foldl (λm p=>if p.1=n then max p.2 m else m) m=max m (look l n)
 | [],m,_,h=>by show m=max m 0;omega
 |p::l,m,hp,h=>by
  have tl:PK l:=⟨(bn.mp hp.sd).2,λx hx=>hp.pos x (ba _ hx)⟩;rw[kt];by_cases e:p.1=n
  .have nn:n∉ks l:=by have :=hp.nd;rw[ks,bp,cy]at this;exact e▸this.1
   rw[vh e,A1 n l _ tl (by omega)];unfold look;rw[tO nn,cI,vh e];show max (max p.2 m) 0=max m p.2;omega
  .rw[vm e,A1 n l m tl h];unfold look;rw[cI,vm e]
def gr (l:P):P:=(pN (vT [] l)).filter λp=>decide (0<p.2)
def up (l:P):P:=(pN l).filter λp=>decide (0<p.2)
theorem FD (n:Str):∀l,(ks l).Nodup->cI (l.filter λp=>decide (0<p.2)) n=(cI l n).filter λv=>decide (0<v)
 | [],_=>rfl
 |p::l,nd=>by
  rw[ks,bp,cy]at nd;have a:=FD n l nd.2;by_cases h:0<p.2
  .rw[jq (by simpa using h),cI,cI];by_cases e:p.1=n
   .rw[vh e,vh e];show _=if decide (0<p.2)=Z7 then Z9 p.2 else Z8
    rw[vh (vq h)]
   .rw[vm e,vm e];exact a
  .rw[jr (by simpa using h),a,cI];by_cases e:p.1=n
   .rw[vh e,tO (e▸nd.1)];show Z8=if decide (0<p.2)=Z7 then Z9 p.2 else Z8
    rw[vm (by simpa using h)]
   .rw[vm e]
theorem TQ (nd:(ks l).Nodup):PK (up l):=⟨(E3 nd).filter _,λp a=>by simpa using(gh.mp a).2⟩
theorem TR (nd:(ks l).Nodup)(n:Str):look (up l) n=max (look l n) 0:=by
 unfold look up;rw[FD n _ (AL (E3 nd)),SV (E2 l) nd];cases h:cI l n with
 |none=>rfl
 |some v=>
  show Option.getD (if _ then _ else _) 0=max v 0;by_cases h:0<v
  .rw[vh (by simpa using h)];show v=_;omega
  .rw[vm (by simpa using h)];show 0=_;omega
theorem FE (l:P):PK (gr l):=TQ (FC l [] n4)
theorem Kb (nd:(ks l).Nodup)(h:∀k∈ks l,k∈ks m):l.length<=m.length:=by have:=Jz nd h;simpa[ks]using this
theorem FF (l:P)(hl:l.length<64):tV [pk l]=.ok (.fr,pk (gr l)):=by
 refine fA ?_;refine cT (J4 Tx rfl) ?_;refine zlf (TJ rfl (by decide) (cS l) rfl) (λa ρ=>∃u v,ρ=[Z9 (.od,pk l),Z9 (.fr,.dict (en a)),u,v]/\(ks a).Nodup/\∀k∈ks a,k∈ks l) (λa p=>put a p.1 (max p.2 (look a p.1))) [] ⟨Z8,Z8,rfl,n4,λ_ h=>by cases h⟩ ?_ ?_
 .rintro a p ρ hp ⟨u,v,rfl,nd,hs⟩
  refine⟨_,cT (TH (eB (aF (aC rfl) (aF (tQ (aC rfl) (aF (aC rfl) (aF aN.e aZ)) (Fd _ _) rfl).e aZ)) (S6 _ _) rfl) (aC rfl) rfl nd (by have:=Kb nd hs;omega)) gG,_,_,rfl,EV _ _ _ nd,λk hk=>?_⟩;rcases(EU _ _ _ _).mp hk with rfl|hk
  .exact bx.mpr ⟨p,hp,rfl⟩
  .exact hs k hk
 .rintro ρ ⟨u,v,rfl,nd,hs⟩
  refine jK (iK (vP (Ev.of (z2e (λp=>decide (0<p.2)) pr (dE (TN rfl (by have:=Kb nd hs;exact ky this hl)) rfl) rfl (λp=>[Z9 (.al,pr p)]) (λp _=>rfl) (λp _=>bM (gD (bJ (aC rfl) aN.e rfl rfl).e aN.e rfl).e rfl) (λp _ _=>v_var rfl rfl))) rfl rfl (cS _)))
theorem yO (hb:PK b):mK [pk a,pk b]=.ok (.fr,.list ((a.filter λp=>decide (look b p.1<p.2)).map λp=>.str p.1)):=by refine fA ?_;refine cT (J4 (vQ (aC rfl) rfl (JV _ hb.nd) (EY b)) (JF b)) ?_;exact jK (AN (λi z=>by cases z) (z2e (λp=>decide (look b p.1<p.2)) (λp=>.str p.1) (dE (v_var rfl (cS a)).1 rfl) rfl (λp=>[Z9 (.al,.str p.1),Z9 (.al,.int p.2),Z9 (.al,.dict (en b))]) (λp _=>rfl) (λp _=>bM (gD (aC rfl) (tQ (aC rfl) (aF (aC rfl) (aF aN.e aZ)) (Fd _ _) rfl).e rfl).e rfl) (λp _ _=>v_var rfl rfl)))
def mt (a b:P):P:=(a.filter λp=>decide (p.1∈ks b)).map λp=>(p.1,min p.2 (look b p.1))
theorem FG (h:a.length+b.length<64):pP [pk a,pk b]=.ok (.fr,pk (gr (a++b))):=by refine fA ?_;refine jK (iK (cU (aF (bQ (aC rfl) (aC rfl) ?_ (cS _)).e aZ) rfl (FF (a++b) (by rw[ao];exact h)) (cS _)));show(if(a.map pr).length+(b.map pr).length<=bD then _ else _)=_;rw[vh (by rw[ae,ae];unfold bD;omega)];unfold pk;rw[dh]
theorem eq_nil (a:List D)(h:eE 39 a=Z7):cmpD .Eq (.list a) (.list [])=.ok a.isEmpty:=by show(if(shal 40 (.list a)&&shal 40 (.list []))=Z7 then Res.ok (bT (.list a) (.list []))else .no)=_;rw[vh (by show(eE 39 a&&Z7)=Z7;rw[h];rfl)];cases a<;>simp[bT,PyData.eqv,ZV]
theorem TU (l:P):eE 39 (l.map λp=>Z2 p.1)=true:=uO.mpr λx a=>by obtain⟨p,_,rfl⟩:=bx.mp a;rfl
def wi (a b:P):Bool:=(a.filter λp=>decide (look b p.1<p.2)).isEmpty
theorem pT (hb:PK b):iE [pk a,pk b]=.ok (.fr,.bool (wi a b)):=by refine fA ?_;refine jK (iK (gD (yj (aF (aC rfl) (aF (aC rfl) aZ)) rfl (yO hb)) (Ev.of (gE bS)) ?_));rw[eq_nil _ (TU _)];unfold wi;rw[List.isEmpty_map]
theorem Ke:∀(a:List Int),dY (a.map .int)=Z9 a.sum
 | []=>rfl
 |x::a=>by rw[bp,dY,Ke a];rfl
theorem TV (c:PK a)(d:PK b):wi a b=Z7↔∀n,look a n<=look b n:=by
 unfold wi;rw[List.isEmpty_iff,jy];constructor
 .intro h n;by_cases hn:n∈ks a
  .obtain⟨v,e⟩:=Jx hn;have:=h _ (tP e);have f:look a n=v:=by unfold look;rw[e];rfl
   simp at this;rw[f];omega
  .have :look a n=0:=by unfold look;rw[tO hn];rfl
   rw[this];exact d.cJ n
 .intro h p g;have:=h p.1;rw[c.aR g]at this;simp;omega
def jn (a b:P):P:=gr (a++b)
theorem FH (ha:PK a)(hb:PK b)(n:Str):look (jn a b) n=max (look a n) (look b n):=by have na:=ha.cJ n;show look (up (vT [] (a++b))) n=_;rw[TR (FC _ [] n4),Ka,ls];have z:look [] n=0:=rfl;rw[z,A1 n a 0 ha (uu _),A1 n b _ hb (by omega)];omega
def sd (b:Bool):Str:=if b then "for"else "against"
def own (b:Bool)(f a:P):P:=if b then f else a
def Kg (b:Bool)(f a:P):P:=if b then a else f
def gH (f a:P):D:=.tuple [pk f,pk a]
def rl (b:Bool)(f a r:P):D:=.tuple [gH f a,.str (sd b),pk r]
theorem FI (f a:P):imm (gH f a)=true:=by show imms [pk f,pk a]=Z7;rw[imms,imms,cS,cS];rfl
theorem TX (b:Bool)(f a r:P):imm (rl b f a r)=true:=by show imms [gH f a,.str (sd b),pk r]=Z7;rw[imms,imms,imms,FI,cS];rfl
theorem TY (b:Bool):tU [.str (sd b)]=.ok (.fr,.none):=by cases b<;>rfl
theorem TZ (h:Ev Κ Φ t a d):aH Κ Φ (.drop t) a=.ok (.nx a):=by obtain⟨g,h⟩:=h;show(aG Κ Φ t a>>=λ_=>Res.ok (Out.nx a))=_;rw[h];rfl
theorem A2 (b:Bool)(f a:P):pO [gH f a,.str (sd b)]=.ok (.fr,pk (own b f a)):=by
 refine fA ?_;refine cT (TZ (yj (aF (aC rfl) aZ) rfl (TY b))) ?_;cases b with
 |true=>exact jK (iK (J3 (k:=Z7) (bM (gD (aC rfl) iX.e rfl).e rfl) (λ_=>bJ (aC rfl) aN.e rfl (cS f)) (y:=pk f) λz=>by cases z))
 |false=>exact jK (iK (J3 (k:=Z6) (bM (gD (aC rfl) iX.e rfl).e rfl) (x:=pk a) (λz=>by cases z) λ_=>bJ (aC rfl) aN.e rfl (cS a)))
def ov (a b:P):List Str:=(a.filter λp=>decide (look b p.1<p.2)).map (·.1)
theorem T1 (a b:P):((a.filter λp=>decide (look b p.1<p.2)).map λp=>Z2 p.1)=(ov a b).map .str:=by unfold ov;rw[jx];rfl
def bi (b:Bool)(f a r f' a':P):Bool:=wi r (own b f' a')&&wi (Kg b f' a') (Kg b f a)
theorem FJ (h:0<b)(c:b<2 ^ 200):dM .FloorDiv (.int a) (.int b)=.ok (.int (a/b)):=by show(if _ then _ else _)=_;rw[vh ⟨h,c⟩]
theorem T2 (cs:List Int):kU "len" [.list (cs.map .int)]=.ok (.int (cs.length:Int)):=by show Res.ok (Z0 ((cs.map Z0).length:Int))=_;rw[ae]
theorem mQ (e:Ev Κ Φ a f x)(g:Oo Κ Φ b f i)(k:Oo Κ Φ c f j)(h:oM x i j=.ok d):Ev Κ Φ (.sl a b c) f d:=by obtain⟨g1,e⟩:=e;unfold Oo at g k;exact⟨_,by rw[Fg];rw[e,Res.aB,g,Res.aB,k,Res.aB];dsimp only;rw[h,Res.aB]⟩
theorem Kh {α β:Type}(f:α->β)(xs:List α)(i j:Option Int):cut (xs.map f) i j=(cut xs i j).map f:=by unfold cut;rw[ae,List.map_take,List.map_drop]
theorem T3 (xs:List Int)(i j:Option Int):oM (.list (xs.map .int)) i j=.ok (.list ((cut xs i j).map .int)):=by show Res.ok (Z1 (cut (xs.map Z0) i j))=_;rw[Kh]
def Nx (I:Rho->Prop)(z:Res Out):Prop:=∃aL,z=.ok (.nx aL)/\I aL
theorem mR (a:imm d=Z7):cX (.nm j) (gJ d g,d) ρ=.ok (ρ.set j (Z9 (.al,d))):=by rw[qT a];rfl
theorem q_nm {Q:Res Out->Prop}{β:Type}{m:β->D}{xs:List β}(h:evF Κ Φ it ρ=.ok (g,xs.map m,ρ1))(hm:∀x,imm (m x)=Z7)(I:List β->Rho->Prop)(h0:I [] ρ1)
  (hf:∀pre x post ρ,xs=pre++x::post->I pre ρ->Nx (I (pre++[x])) (aH Κ Φ p (ρ.set j (Z9 (.al,m x))))) (hk:∀aL,I xs aL->Q (aH Κ Φ rest aL)):Q (aH Κ Φ (.seq (.bN (.nm j) it p) rest) ρ):=
 zv7 h I h0 (λpre x post ρ hx hI=>by obtain⟨aL,h1,h2⟩:=hf pre x post ρ hx hI;exact⟨_,aL,mR (hm x),h1,h2⟩) hk
theorem FK {β:Type}(m:β->D){xs:List β}{i:Int}(d:β)(h0:0<=i)(h1:i<xs.length):jU (.list (xs.map m)) (.int i)=.ok (m (xs.getD i.toNat d)):=by
 show Res.eK (cW (xs.map m) i)=_;rw[vM _ i (m d) h0 (by rw[ae];exact h1)]
 congr 1
 have:i.toNat<xs.length:=by omega
 rw[am,am,a9,au this];rfl
theorem FN {a:Type}{m:a->D}(h:∀x,imm (m x)=Z7)(b:List a):imms (b.map m)=true:=zi.mpr λx c=>by obtain⟨p,_,rfl⟩:=bx.mp c;exact h p
theorem T4 {Κ:List D}{Φ:List Fn}{ρ:Rho}{a b:C}{i j n:Nat}{x:D}{xs:List D}(hv:Vv Κ Φ b ρ x)(hk:Ev Κ Φ a ρ (.int j))(hr:ρ[i]?=Z9 (Z9 (.fr,.list xs)))(hj:iG xs.length (j:Int)=Z9 n):aH Κ Φ (.cF i a b) ρ=.ok (.nx ((ρ.set i (Z9 (.fr,.list (xs.set n x)))).map dV)):=by
 obtain⟨g1,hk⟩:=hk;rw[JN,hv.1,Res.aB,hk,Res.aB,hr]
 dsimp only
 rw[vh (Fs hv.2),hj]
theorem yP (h:imm d=Z7):dV (Z9 (.al,d))=Z9 (.al,d):=by show(if imm d=Z7 then Z9 (G.al,d)else Z8)=_;rw[vh h]
def Sw (ws:List Str):Prop:=ws.Pairwise sl
theorem Ki:∀{ws:List Str} {ds:List Int},Sw ws->(ws.zip ds).Pairwise λp q=>sl p.1 q.1
 | [],_,_=>by simp
 |_::_,[],_=>by simp
 |w::ws,d::ds,h=>by obtain⟨h1,h2⟩:=bn.1 h;refine bn.mpr ⟨λp hp=>h1 _ ?_,Ki h2⟩;exact(kr hp).1
theorem Kj (hz:z.cps.toList.Nodup)(hi:0<=i/\i<z.length)(hj:0<=j/\j<z.length)(h:chr z i=chr z j):i=j:=by
 have e:z.length=z.cps.toList.length:=by rw[aw];rfl
 unfold chr at h;have h1:z.cps.toList.getD i.toNat 0=z.cps.toList.getD j.toNat 0:=by have:=congrArg (λs:Str=>s.cps.toList) h;simpa using this
 have a1:i.toNat<z.cps.toList.length:=by omega
 have a2:j.toNat<z.cps.toList.length:=by omega
 rw[am,am,au a1,au a2]at h1;have:=(List.getElem_inj hz).mp h1;omega
theorem app_list (a b:Str):(a++b).cps.toList=a.cps.toList++b.cps.toList:=by show(a.cps++b.cps).toList=_;rw[bq]
def kN:Str:="bcdfghjklmnpqrstvwxyz"
theorem vU:kN.length=21:=rfl
theorem Kk:kN.cps.toList.Nodup:=by decide+kernel
def lt (c:Int)(at_ k:Nat)(j:Nat):Str:=chr kN ((c/144+((j:Int)*j+4*k*(if j=at_ then 1 else 0)))%21)
def iY (x:Str):List Str->List Str
 | []=>[x]
 |y::ys=>if decide (y.cps.toList<x.cps.toList)then y::iY x ys else x::y::ys
def iZ:List Str->List Str
 | []=>[]
 |x::xs=>iY x (iZ xs)
theorem Kl (x:Str):∀l:List Str,dI (.str x) (l.map .str)=(iY x l).map .str
 | []=>rfl
 |y::ys=>by
  show(if bB (.str y) (.str x)then _ else _)=pv _ (if _ then _ else _);have e:bB (.str y) (.str x)=decide (y.cps.toList<x.cps.toList):=rfl;rw[e];cases decide (y.cps.toList<x.cps.toList)with
  |true=>show _::dI (.str x) (ys.map .str)=_;rw[Kl x ys];rfl
  |false=>rfl
theorem Km:∀l:List Str,z0r (l.map .str)=(iZ l).map .str
 | []=>rfl
 |x::xs=>by show dI (.str x) (z0r (xs.map .str))=_;rw[Km xs,Kl];rfl
theorem FO (x:Str):∀l,(iY x l).Perm (x::l)
 | []=>List.Perm.refl _
 |y::ys=>by
  unfold iY;split
  .exact((FO x ys).cons y).trans (List.Perm.swap x y ys)
  .exact List.Perm.refl _
theorem FP:∀l,(iZ l).Perm l
 | []=>List.Perm.refl _
 |x::xs=>(FO x _).trans ((FP xs).cons x)
theorem Kn:∀{l:List Str},Sw l->x∉l->Sw (iY x l)
 | [],_,_=>ij _ _
 |y::ys,h,hn=>by
  obtain⟨h1,h2⟩:=bn.1 h;unfold iY;split
  .rename_i hd;refine bn.mpr ⟨λz hz=>?_,Kn h2 λz=>hn (ba _ z)⟩;rcases ay.mp ((FO x ys).mem_iff.mp hz)with rfl|hz
   .show y.cps.toList<_;exact vp hd
   .exact h1 z hz
  .rename_i hd;have Kq:=(AJ (λe=>hn (by rw[e];exact a8))).elim id λz=>(hd (vq z)).elim;refine bn.mpr ⟨λz hz=>?_,h⟩;rcases ay.1 hz with rfl|hz
   .exact Kq
   .exact AI Kq (h1 z hz)
theorem Kr:∀{l:List Str},l.Nodup->Sw (iZ l)
 | [],_=>List.Pairwise.nil
 |x::xs,h=>by obtain⟨h1,h2⟩:=cy.mp h;exact Kn (Kr h2) λz=>h1 ((FP xs).mem_iff.mp z)
theorem T5 (l:List Str):oJ (l.map .str)=true:=by
 unfold oJ lO;have:(l.map Z2).all uQ=true:=bb.mpr λx hx=>by obtain⟨w,_,rfl⟩:=bx.mp hx;rfl
 rw[this,ln,ke,ke]
theorem T6 {l:List Str}(h:l.length<64):aggD "sorted" Z7 (l.map .str)=.ok (.list ((iZ l).map .str)):=by show(if(Z7&&oJ (l.map .str)&&decide ((l.map Z2).length<64))=Z7 then Res.ok (Z1 (z0r (l.map .str)))else if(Z7&&z7p (l.map .str))=Z7 then Res.ok (Z1 (z0r (l.map .str)))else .no)=_;rw[T5,Km,ae,vq h];rfl
structure GW (ws:List Str):Prop where
 sw:Sw ws
 pos:0<ws.length
 len:ws.length<=6
 wl:∀w∈ws,w.length<=30
structure RG (rs:List Int):Prop where
 nn:∀r∈rs,0<=r
 cs:rs.length=4\/∃t,rs=[t]/\0<t/\t<=10 ^ 30
theorem Ks {P:Rho->Prop}(I:Nat->Rho->Prop)(hs:∀k b,I k b->(c b=.ok Z6/\P b)\/∃d a,k=d+1/\c b=.ok Z7/\f b=.ok (.nx a)/\I d a):∀k n b,k<n->I k b->∃a,wO c f n b=.ok (.nx a)/\P a
 |k,0,_,h,_=>by omega
 |k,n+1,b,h,l=>by
  rcases hs k b l with⟨g,i⟩|⟨d,a,rfl,g,i,m⟩
  .exact⟨b,by show(c b>>=_)=_;rw[g];rfl,i⟩
  .obtain⟨j,e,p⟩:=Ks I hs d n a (by omega) m;refine⟨j,?_,p⟩;show(c b>>=_)=_;rw[g,i];exact e
theorem tJ {Q:Res Out->Prop}{P:Rho->Prop}(I:Nat->Rho->Prop)(k:Nat)(hn:k<n)(h0:I k d)(hs:∀k d,I k d->(Tt Κ Φ c d Z6/\P d)\/∃f a,k=f+1/\Tt Κ Φ c d Z7/\aH Κ Φ b d=.ok (.nx a)/\I f a)(g:∀a,P a->Q (aH Κ Φ rest a)):Q (aH Κ Φ (.seq (.wh n c b) rest) d):=by obtain⟨a,e,p⟩:=Ks I hs k n d hn h0;exact aW e (g a p)
theorem FQ (a b:Str):bT (.str a) (.str b)=decide (a=b):=by
 by_cases h:a=b
 .rw[vq h,h];exact beq_self_eq_true b
 .rw[vr h];exact beq_false_of_ne h
theorem T7 (n:Nat)(ws:List Str):eE n (ws.map .str)=true:=uO.mpr λx hx=>by obtain⟨w,_,rfl⟩:=bx.mp hx;cases n<;>rfl
theorem T8 (w:Str)(ws:List Str):cmpD .In (.str w) (.list (ws.map .str))=.ok (decide (w∈ws)):=by
 show(if(shal 40 (.str w)&&eE 40 (ws.map .str))=Z7 then Res.ok ((ws.map Z2).any λy=>bT y (.str w))else .no)=_;rw[T7,List.any_map];show Res.ok _=_
 congr 1
 apply mv.mpr;rw[List.any_eq_true,decide_eq_true_iff];refine⟨λ⟨x,b,a⟩=>?_,λh=>⟨w,h,?_⟩⟩
 .have a:bT (.str x) (.str w)=true:=a;exact vp a▸b
 .show bT (.str w) (.str w)=Z7;rw[FQ];simp_all
def qs (n:Nat):Str:=⟨(nI n ("q":Str).cps.toList).toArray⟩
theorem T9 (xs:List Int):aggD "sum" Z7 (xs.map .int)=.ok (.int xs.sum):=by show Res.eK ((dY (xs.map .int)).map Z0)=_;rw[Ke];rfl
theorem Kt (h:0<=v):aT n d (Z9 v)=min v.toNat n:=by show(if v<0 then(v+(n:Int)).toNat else min v.toNat n)=_;rw[vm (Int.not_lt.mpr h)]
structure BG (xs:List Int)(m:Nat)(w:Int)(ws:List Str)(rs cs re:List Int):Prop where
 w0:0<=w
 w1:w<2147483647
 gw:GW ws
 rg:RG rs
 cl:cs.length<=xs.length
 cm:cs.length<=m
 rl:re.length<=xs.length
 w3:ws.length<=3
section
variable {α N:Type}(d:α->N->Int)
def T' (a b:α):Prop:=∀n,d a n<=d b n
variable {d}
variable [DecidableEq α]
def vV (d:α->N->Int)(le:α->α->Bool)(jn:α->N->Int->α)(free aJ:List α)(n:N)(v:Int):List α:=(aJ.map λc=>jn c n v).filter λm=>!(((free.filter λf=>decide (d f n=v))++(aJ.filter λc=>decide (0<d c n)).map λc=>jn c n v).any λr=>!decide (r=m)&&le r m)
def nT (d:α->N->Int)(le:α->α->Bool)(jn:α->N->Int->α)(M:List α)(R:α)(ov:List N):List α:=(M.filter λm=>!le m R)++ov.flatMap λn=>vV d le jn (M.filter λm=>!le m R) (M.filter λm=>le m R) n (d R n+1)
theorem Ua {le:α->α->Bool}{jn:α->N->Int->α}{M:List α}{R:α}{ov:List N}(ha:∀m∈M,le m R=Z7)(hz:∀m∈M,∀n∈ov,d m n=0):nT d le jn M R ov=ov.flatMap λn=>M.map λc=>jn c n (d R n+1):=by
 have e1:(M.filter λm=>!le m R)=[]:=jy.mpr λm hm=>by rw[ha m hm];exact cv
 have e2:(M.filter λm=>le m R)=M:=ji.mpr ha;unfold nT;rw[e1,e2,List.nil_append]
 have:∀l:List N,(∀n∈l,n∈ov)->(l.flatMap λn=>vV d le jn [] M n (d R n+1))=l.flatMap λn=>M.map λc=>jn c n (d R n+1):=λl=>by
  induction l with
  |nil=>exact λ_=>rfl
  |cons n l ih=>
   intro hl;rw[lu,lu,ih λk hk=>hl k (.tail _ hk)]
   congr 1
   unfold vV;have e3:(M.filter λc=>decide (0<d c n))=[]:=jy.mpr λm hm=>by rw[hz m hm n (hl n (.head _))];decide
   rw[e3];exact ji.mpr λ_ _=>rfl
 exact this ov λ_ h=>h
end
abbrev PS:={l:P//PK l}
def pkS (x:PS):D:=pk x.1
def dP (x:PS)(n:Str):Int:=look x.1 n
def gI (a b:PS):Bool:=wi a.1 b.1
theorem Ub (a b:P):PK (jn a b):=FE _
def dW (a:PS)(n:Str)(v:Int):PS:=⟨jn a.1 [(n,v)],Ub _ _⟩
theorem jA (x:PS):imm (pkS x)=true:=cS _
theorem mS (l:List PS):imms (l.map pkS)=true:=FN jA l
theorem Uc:∀a b:PS,(∀n,dP a n=dP b n)->a=b:=λa b h=>Subtype.ext (PK.ext a.2 b.2 h)
theorem tX:∀(a:PS) n,0<=dP a n:=λa n=>a.2.cJ n
theorem Ud:∀a b:PS,gI a b=Z7↔T' dP a b:=λa b=>TV a.2 b.2
theorem Ku (h:0<v):PK [(n,v)]:=⟨ij _ _,λp hp=>by rw[cq.mp hp];exact h⟩
theorem Kv (n k:Str)(v:Int):look [(n,v)] k=if n=k then v else 0:=by show((if n=k then Z9 v else Z8:Option Int).getD 0)=_;split<;>rfl
theorem Kw:∀(a:PS) n v,0<v->dP (dW a n v) n=max (dP a n) v:=λa n v h=>by show look (jn a.1 [(n,v)]) n=_;rw[FH a.2 (Ku h),Kv,vh rfl];rfl
theorem vW:∀(a:PS) n v k,0<v->k≠n->dP (dW a n v) k=dP a k:=λa n v k h hk=>by show look (jn a.1 [(n,v)]) k=_;rw[FH a.2 (Ku h),Kv,vm (Ne.symm hk)];have:=tX a k;unfold dP at this ⊢;omega
theorem FR (ha:PK a)(hb:PK b)(n:Str):n∈ov a b↔look b n<look a n:=by
 unfold ov;rw[bx];constructor
 .rintro⟨p,hp,rfl⟩
  obtain⟨h1,h2⟩:=gh.mp hp;rw[ha.aR h1];exact vp h2
 .intro h;have h0:=hb.cJ n;have hk:n∈ks a:=ha.key.mpr (by omega);obtain⟨p,hp,rfl⟩:=bx.mp hk;rw[ha.aR hp]at h;exact⟨p,gh.mpr ⟨hp,vq h⟩,rfl⟩
theorem Kz (ha:PK a):(ov a b).Nodup:=List.Nodup.sublist (List.Sublist.map _ (List.filter_sublist)) ha.nd
theorem A3 (p q:Str×Int):bT (pr p) (pr q)=decide (p=q):=by show(bT (.str p.1) (.str q.1)&&(bT (.int p.2) (.int q.2)&&Z7))=_;rw[FQ,yy,Bool.and_true,<-qd];exact decide_eq_decide.mpr (Prod.ext_iff).symm
theorem KC:∀l m:P,ZV (l.map pr) (m.map pr)=decide (l=m)
 | [],[]=>rfl
 | [],_::_=>rfl
 |_::_,[]=>rfl
 |p::l,q::m=>by show(bT (pr p) (pr q)&&ZV (l.map pr) (m.map pr))=_;rw[A3,KC l m,<-qd];exact decide_eq_decide.mpr (List.cons.injEq .. ▸Iff.rfl)
theorem KD (a b:PS):bT (pkS a) (pkS b)=decide (a=b):=by show ZV (a.1.map pr) (b.1.map pr)=_;rw[KC];exact decide_eq_decide.mpr Subtype.ext_iff.symm
theorem Ue (a b:PS):cmpD .NotEq (pkS a) (pkS b)=.ok (!decide (a=b)):=by show(if(shal 40 (pk a.1)&&shal 40 (pk b.1))=Z7 then Res.ok (!bT (pkS a) (pkS b))else .no)=_;rw[EZ 38,EZ 38,KD];rfl
theorem FT (h:PK al)(n:Str):kM [pk al,.str n]=.ok (.fr,.int (look al n)):=by refine fA ?_;exact jK (iK (tQ (Ev.of (vQ (aC rfl) rfl (JV _ h.nd) (EY al))) (aF (aC rfl) (aF aN.e aZ)) (Fd _ _) rfl))
theorem KG {α:Type}(f:α->Bool):∀l:List α,allB (l.map λx=>ZW (f x))=Z9 (l.map f)
 | []=>rfl
 |x::l=>by show(allB (l.map λx=>ZW (f x))).map _=_;rw[KG f l];rfl
theorem Ug {α:Type}(f:α->Bool)(l:List α):aggD "any" Z7 (l.map λx=>ZW (f x))=.ok (.bool (l.any f)):=by show Res.eK ((allB (l.map λx=>ZW (f x))).map λbs=>ZW (bs.any id))=_;rw[KG];show Res.ok (ZW ((l.map f).any id))=_;rw[List.any_map];rfl
theorem FU (m:PS)(L:List PS):pQ [pkS m,.list (L.map pkS)]=.ok (.fr,.bool (!(L.any λr=>!decide (r=m)&&gI r m))):=by refine fA ?_;have hc:=z2e (Κ:=[]) (Φ:=[iE]) (ρ:=[Z9 (.od,pkS m),Z9 (.od,.list (L.map pkS))]) (nt:=1) (js:=[0]) (N':=["rival","one"]) (tg:=.nm 0) (it:=.tv (.var 1)) (elt:=.and (.cmp .NotEq (.var 0) (.var 1)) (.call 0 "within" (.cons (.var 0) (.cons (.var 1) .nil)))) (λ_=>Z7) (λr=>.bool (!decide (r=m)&&gI r m)) (dE rfl rfl) rfl (λr=>[Z9 (.al,pkS r),Z9 (.od,pkS m)]) (λr _=>mR (jA r)) (λr _=>Fq) λr _ _=>v_and (gD (aC rfl) (aC rfl) (Ue r m)).e λ_=>cU (aF (aC rfl) (aF (aC rfl) aZ)) rfl (pT m.2) rfl;rw[ji.mpr λ_ _=>rfl]at hc;exact jK (iK (v_not (vP (Ev.of hc) rfl (Ug _ _) rfl).e rfl))
theorem KH (h:aG Κ Φ a ρ=.ok (.fr,.list zs))(hi:imms zs=Z7)(hr:ρ[i]?=Z9 (Z9 (.fr,.list xs)))(hl:xs.length+zs.length<=1000)(e:(ρ.set i (Z9 (.fr,.list (xs++zs)))).map dV=aL):aH Κ Φ (.mut "extend" i (.cons a .nil)) ρ=.ok (.nx aL):=by
 rw[JO,AM,h,Res.aB,JQ,Res.aB,Res.aB,hr]
 dsimp only
 have:jY "extend" xs [(.fr,.list zs)]=.ok (xs++zs):=by show(if(okIn (G.fr,.list zs)&&decide (xs.length+zs.length<=bD))=Z7 then _ else _)=_;rw[vq (show xs.length+zs.length<=bD by unfold bD;omega)];rfl
 rw[this];show Res.ok (Out.nx ((ρ.set i (Z9 (.fr,.list (xs++zs)))).map dV))=_;rw[e]
theorem FV (free aJ:List PS)(hv:0<v)(hc:∀c∈aJ,c.1.length<=20)(l1:free.length<=200)(l2:aJ.length<=200):pR [.list (free.map pkS),.list (aJ.map pkS),pr (n,v)]=.ok (.fr,.list ((vV dP gI dW free aJ n v).map pkS)):=by
 refine fA ?_
 let Φ:List Fn:=[pQ,pP,kM]
 refine cT (eN (bJ (aC rfl) aN.e rfl rfl)) ?_;have hj:=λc h=>FG (b:=[(n,v)]) (by have:=hc c h;show c.1.length+1<64;omega)
 let ρ:Rho:=[Z9 (.od,.list (free.map pkS)),Z9 (.od,.list (aJ.map pkS)),Z9 (.od,pr (n,v)),Z9 (.al,.str n),Z8,Z8]
 have c1:=z2e (Κ:=[]) (Φ:=Φ) (ρ:=ρ) (nt:=1) (js:=[3,2]) (N':=["one","name","step"]) (tg:=.nm 0) (it:=.tv (.var 0)) (cond:=.tv (.cmp .Eq (.call 2 "degree" (.cons (.var 0) (.cons (.var 1) .nil))) (.ix (.var 2) (.int 1)))) (elt:=.var 0) (λf=>decide (dP f n=v)) pkS (dE rfl rfl) rfl (λr=>[Z9 (.al,pkS r),Z9 (.al,.str n),Z9 (.od,pr (n,v))]) (λr _=>mR (jA r)) (λr _=>bM (gD (cU (aF (aC rfl) (aF (aC rfl) aZ)) rfl (FT r.2 n) rfl).e (bJ (aC rfl) aN.e rfl rfl).e (by show Res.ok (bT (.int _) (.int _))=_;rw[yy];rfl)).e rfl) λr _ _=>v_var rfl (jA r);refine cT (gF c1 (mS _)) ?_
 let ρ1:Rho:=[Z9 (.od,.list (free.map pkS)),Z9 (.od,.list (aJ.map pkS)),Z9 (.od,pr (n,v)),Z9 (.al,.str n),Z9 (.fr,.list ((free.filter λf=>decide (dP f n=v)).map pkS)),Z8]
 have c2:=z2e (Κ:=[]) (Φ:=Φ) (ρ:=ρ1) (nt:=1) (js:=[2,3]) (N':=["one","step","name"]) (tg:=.nm 0) (it:=.tv (.var 1)) (cond:=.tv (.cmp .Gt (.call 2 "degree" (.cons (.var 0) (.cons (.var 2) .nil))) (.int 0))) (elt:=.call 1 "join" (.cons (.var 0) (.cons (.tup (.cons (.var 1) .nil)) .nil))) (λc=>decide (0<dP c n)) (λc=>pkS (dW c n v)) (dE rfl rfl) rfl (λr=>[Z9 (.al,pkS r),Z9 (.od,pr (n,v)),Z9 (.al,.str n)]) (λr _=>mR (jA r)) (λr _=>bM (gD (cU (aF (aC rfl) (aF (aC rfl) aZ)) rfl (FT r.2 n) rfl).e aN.e rfl).e rfl) λr hr _=>cU (aF (aC rfl) (aF (eD (aU (v_var rfl (JG (n,v))) bS)).e aZ)) rfl (hj r hr) (jA _);have e2:((aJ.filter λc=>decide (0<dP c n)).map λc=>pkS (dW c n v))=((aJ.filter λc=>decide (0<dP c n)).map λc=>dW c n v).map pkS:=by rw[jx];rfl
 rw[e2]at c2
 let R:List PS:=(free.filter λf=>decide (dP f n=v))++(aJ.filter λc=>decide (0<dP c n)).map λc=>dW c n v
 let bL:Rho:=[Z9 (.od,.list (free.map pkS)),Z9 (.od,.list (aJ.map pkS)),Z9 (.od,pr (n,v)),Z9 (.al,.str n),Z9 (.fr,.list (R.map pkS)),Z8]
 refine cT (KH (aL:=bL) c2 (mS _) rfl ?_ ?_) ?_
 .rw[ae,ae,ae];have:=gz (λf=>decide (dP f n=v)) free;have:=gz (λc=>decide (0<dP c n)) aJ;omega
 .show pv dV [Z9 (.od,.list (free.map pkS)),Z9 (.od,.list (aJ.map pkS)),Z9 (.od,pr (n,v)),Z9 (.al,.str n),Z9 (.fr,.list _),Z8]=_;rw[<-dh];rfl
 have c3:=z2e (Κ:=[]) (Φ:=Φ) (ρ:=bL) (nt:=1) (js:=[2]) (N':=["one","step"]) (tg:=.nm 0) (it:=.tv (.var 1)) (elt:=.call 1 "join" (.cons (.var 0) (.cons (.tup (.cons (.var 1) .nil)) .nil))) (λ_=>Z7) (λc=>pkS (dW c n v)) (dE rfl rfl) rfl (λr=>[Z9 (.al,pkS r),Z9 (.od,pr (n,v))]) (λr _=>mR (jA r)) (λr _=>Fq) λr hr _=>cU (aF (aC rfl) (aF (eD (aU (v_var rfl (JG (n,v))) bS)).e aZ)) rfl (hj r hr) (jA _);rw[ji.mpr λ_ _=>rfl,show(aJ.map λc=>pkS (dW c n v))=(aJ.map λc=>dW c n v).map pkS by rw[jx];rfl]at c3;refine cT (gF c3 (mS _)) ?_;refine jK (AN (λi z=>by cases z) ?_);exact z2e (cond:=.tv (.call 0 "is_least" (.cons (.var 0) (.cons (.var 1) .nil)))) (λm=>!(R.any λr=>!decide (r=m)&&gI r m)) pkS (w:=(.al,(aJ.map λc=>dW c n v).map pkS)) (dE (x:=.list ((aJ.map λc=>dW c n v).map pkS)) rfl rfl) rfl (λr=>[Z9 (.al,pkS r),Z9 (.al,.list (R.map pkS))]) (λr _=>mR (jA r)) (λr _=>bM (cU (aF (aC rfl) (aF (aC rfl) aZ)) rfl (FU r R) rfl).e rfl) λr _ _=>v_var rfl (jA r)
theorem KI (free aJ:List PS)(n:Str)(v:Int):(vV dP gI dW free aJ n v).length<=aJ.length:=by refine cc (gz _ _) ?_;rw[ae];exact ah _
theorem Al {α β:Type}(f:α->List β)(k:Nat):∀l:List α,(∀a∈l,(f a).length<=k)->(l.flatMap f).length<=l.length*k
 | [],_=>by simp
 |a::l,h=>by rw[lu,ao,bo,uw];have:=h a (.head _);have:=Al f k l λb hb=>h b (.tail _ hb);omega
theorem FW (M:List PS)(held R:PS)(hc:∀c∈M,c.1.length<=20)(l1:M.length<=127)(l2:M.length+(ov held.1 R.1).length*M.length<=1000):mL [.list (M.map pkS),pkS held,pkS R]=.ok (.fr,.list ((nT dP gI dW M R (ov held.1 R.1)).map pkS)):=by
 unfold mL;refine fA ?_
 let Φ:List Fn:=[mK,pR,kM,iE]
 let Q:Res Out->Prop:=λz=>z=.ok (.rt .fr (.list ((nT dP gI dW M R (ov held.1 R.1)).map pkS)))
 show Q _;unfold tW
 let fr:List PS:=M.filter λm=>!gI m R
 let ca:List PS:=M.filter λm=>gI m R
 have cw:∀{ρ:Rho},ρ[0]?=Z9 (Z9 (.od,.list (M.map pkS)))->evW [] Φ (.tv (.var 0)) ρ=.ok (.od,M.map pkS):=λh=>dE (x:=.list (M.map pkS)) (by rw[yA,h];rfl) rfl;have c1:=z2e (Κ:=[]) (Φ:=Φ) (ρ:=[Z9 (.od,.list (M.map pkS)),Z9 (.od,pkS held),Z9 (.od,pkS R),Z8,Z8,Z8,Z8]) (nt:=1) (js:=[2]) (N':=["one","reach"]) (tg:=.nm 0) (it:=.tv (.var 0)) (cond:=.not (.tv (.call 3 "within" (.cons (.var 0) (.cons (.var 1) .nil))))) (elt:=.var 0) (m:=pkS) (xs:=M) (λm=>!gI m R) pkS (cw rfl) rfl (λr=>[Z9 (.al,pkS r),Z9 (.od,pkS R)]) (λr _=>mR (jA r)) (λr _=>qH (bM (cU (aF (aC rfl) (aF (aC rfl) aZ)) rfl (pT R.2) rfl).e rfl)) λr _ _=>v_var rfl (jA r);refine aW (gF c1 (mS _)) ?_;have c2:=z2e (Κ:=[]) (Φ:=Φ) (ρ:=[Z9 (.od,.list (M.map pkS)),Z9 (.od,pkS held),Z9 (.od,pkS R),Z9 (.fr,.list (fr.map pkS)),Z8,Z8,Z8]) (nt:=1) (js:=[2]) (N':=["one","reach"]) (tg:=.nm 0) (it:=.tv (.var 0)) (cond:=.tv (.call 3 "within" (.cons (.var 0) (.cons (.var 1) .nil)))) (elt:=.var 0) (m:=pkS) (xs:=M) (λm=>gI m R) pkS (cw rfl) rfl (λr=>[Z9 (.al,pkS r),Z9 (.od,pkS R)]) (λr _=>mR (jA r)) (λr _=>bM (cU (aF (aC rfl) (aF (aC rfl) aZ)) rfl (pT R.2) rfl).e rfl) λr _ _=>v_var rfl (jA r);refine aW (gF c2 (mS _)) ?_;refine aW (gF (xs:=fr.map pkS) (vQ (w:=(Z7,fr.map pkS)) (aC rfl) rfl rfl (mS _)) (mS _)) ?_;have Vz:fr.length<=M.length:=gz _ _;have hcl:ca.length<=M.length:=gz _ _
 let g:Str->List PS:=λn=>vV dP gI dW fr ca n (dP R n+1)
 let dQ:List Str->Option GD->Rho:=λpre u=>[Z9 (.od,.list (M.map pkS)),Z9 (.od,pkS held),Z9 (.od,pkS R),Z9 (.fr,.list (fr.map pkS)),Z9 (.fr,.list (ca.map pkS)),Z9 (.fr,.list ((fr++pre.flatMap g).map pkS)),u]
 refine q_nm (m:=Z2) (xs:=ov held.1 R.1) (g:=.fr) (ρ1:=dQ [] Z8) ?_ (λ_=>rfl) (λpre ρ=>∃u,ρ=dQ pre u) ⟨Z8,rfl⟩ ?_ ?_
 .refine Eq.trans (J7 (x':=.list ((ov held.1 R.1).map .str)) (xs:=(ov held.1 R.1).map .str) (λi z=>by cases z) ?_ rfl) ?_
  .exact qU (aF (aC (d:=pk held.1) rfl) (aF (aC (d:=pk R.1) rfl) aZ)) rfl (by rw[yO R.2,T1])
  .show Res.ok (G.fr,_,_)=Res.ok (G.fr,_,_);rw[show dQ [] Z8=[Z9 (.od,.list (M.map pkS)),Z9 (.od,pkS held),Z9 (.od,pkS R),Z9 (.fr,.list (fr.map pkS)),Z9 (.fr,.list (ca.map pkS)),Z9 (.fr,.list (fr.map pkS)),Z8] by show[_,_,_,_,_,Z9 (G.fr,Z1 ((fr++[]).map pkS)),_]=_;rw[e9]];rfl
 .rintro pre n post ρ hx ⟨u,rfl⟩
  have hz:=FV fr ca (n:=n) (v:=dP R n+1) (by have:=tX R n;omega) (λc h=>hc c (gh.mp h).1) (by omega) (by omega);have oU:pre.length+1<=(ov held.1 R.1).length:=by have:=congrArg kz hx;rw[ao,bo]at this;omega
  refine⟨_,cT (KH (aL:=dQ (pre++[n]) (Z9 (.al,.str n))) (qU (aF (aC (d:=.list (fr.map pkS)) rfl) (aF (aC (d:=.list (ca.map pkS)) rfl) (aF (eD (ds:=[.str n,.int (dP R n+1)]) (aU (v_var rfl rfl) (aU (bQ (cU (aF (aC (d:=pk R.1) rfl) (aF (aC (d:=.str n) rfl) aZ)) rfl (FT R.2 n) rfl).e aN.e rfl rfl) bS))).e aZ))) rfl hz) (mS _) rfl ?_ ?_) gG,_,rfl⟩
  .rw[ae,ae,ao];have:=KI fr ca n (dP R n+1);have:=Al g ca.length pre λa _=>KI fr ca a _;have:=n5 oU hcl;rw[uw]at this;omega
  .show pv dV [_,_,_,_,_,Z9 (G.fr,Z1 _),_]=[_,_,_,_,_,Z9 (G.fr,Z1 ((fr++(pre++[n]).flatMap g).map pkS)),_];rw[show(fr++(pre++[n]).flatMap g).map pkS=(fr++pre.flatMap g).map pkS++(g n).map pkS by rw[List.flatMap_append,<-c9,dh,List.flatMap_singleton]];rfl
 .rintro ρ ⟨u,rfl⟩
  exact eX (z7h rfl) rfl
theorem FX (p q:Str×Int):bB (pr p) (pr q)=if p.1=q.1 then decide (p.2<q.2)else decide (p.1.cps.toList<q.1.cps.toList):=by
 show(if bT (.str p.1) (.str q.1)then(if bT (.int p.2) (.int q.2)then !([]:List D).isEmpty else decide (p.2<q.2))else decide (p.1.cps.toList<q.1.cps.toList))=_;rw[FQ,yy];by_cases h:p.1=q.1
 .rw[vh (vq h),vh h];by_cases k:p.2=q.2
  .rw[vh (vq k),k];exact(vr (oz _)).symm
  .rw[vm (by rw[vr k];exact cv)]
 .rw[vm (by rw[vr h];exact cv),vm h]
theorem Uh (h:bB (pr p) (pr q)=Z7):bB (pr q) (pr p)=false:=by
 rw[FX]at h ⊢;by_cases e:p.1=q.1
 .rw[vh e]at h;rw[vh e.symm];have:=vp h;exact vr (by omega)
 .rw[vm e]at h;rw[vm (Ne.symm e)];have h:=vp h;exact vr λz=>AH p.1 (AI h z)
theorem KJ:∀l m:P,aD (l.map pr) (m.map pr)=Z7->aD (m.map pr) (l.map pr)=Z6
 | [],[],h=>by cases h
 | [],_::_,_=>rfl
 |_::_,[],h=>by cases h
 |x::l,y::m,h=>by
  have h:(if bT (pr x) (pr y)then aD (l.map pr) (m.map pr)else bB (pr x) (pr y))=true:=h;show(if bT (pr y) (pr x)then aD (m.map pr) (l.map pr)else bB (pr y) (pr x))=Z6;rw[A3]at h ⊢;by_cases e:x=y
  .rw[vh (vq e)]at h;rw[vh (vq e.symm)];exact KJ l m h
  .rw[vm (by rw[vr e];exact cv)]at h;rw[vm (by rw[vr (Ne.symm e)];exact cv)];exact Uh h
def nU (a b:PS):Bool:=bB (pkS a) (pkS b)
theorem KN (h:nU a b=Z7):nU b a=false:=KJ a.1 b.1 h
def fH (x:PS):List PS->List PS
 | []=>[x]
 |y::ys=>if nU y x then y::fH x ys else x::y::ys
def iF:List PS->List PS
 | []=>[]
 |x::xs=>fH x (iF xs)
theorem KO (x:PS):∀l:List PS,dI (pkS x) (l.map pkS)=(fH x l).map pkS
 | []=>rfl
 |y::ys=>by
  show(if nU y x then _ else _)=pv _ (if _ then _ else _);cases nU y x with
  |true=>show _::dI (pkS x) (ys.map pkS)=_;rw[KO x ys];rfl
  |false=>rfl
theorem KP:∀l:List PS,z0r (l.map pkS)=(iF l).map pkS
 | []=>rfl
 |x::xs=>by show dI (pkS x) (z0r (xs.map pkS))=_;rw[KP xs,KO];rfl
theorem KQ (x:PS):∀l,(fH x l).Perm (x::l)
 | []=>List.Perm.refl _
 |y::ys=>by
  unfold fH;split
  .exact((KQ x ys).cons y).trans (List.Perm.swap x y ys)
  .exact List.Perm.refl _
theorem KR:∀l,(iF l).Perm l
 | []=>List.Perm.refl _
 |x::xs=>(KQ x _).trans ((KR xs).cons x)
def pU:List PS->Prop
 |x::y::r=>nU y x=Z6/\pU (y::r)
 |_=>True
theorem KS (x:PS):∀l,pU l->pU (fH x l)
 | [],_=>trivial
 | [y],_=>by
  unfold fH;cases h:nU y x with
  |true=>exact⟨KN h,trivial⟩
  |false=>exact⟨h,trivial⟩
 |y::z::r,h=>by
  have ih:=KS x (z::r) h.2;unfold fH;cases hy:nU y x with
  |false=>exact⟨hy,h⟩
  |true=>
   unfold fH at ih ⊢;cases hz:nU z x with
   |true=>rw[hz]at ih;exact⟨h.1,ih⟩
   |false=>rw[hz]at ih;exact⟨KN hy,ih⟩
theorem KU:∀l,pU (iF l)
 | []=>trivial
 |x::xs=>KS x _ (KU xs)
theorem KW:∀l,pU l->iF l=l
 | [],_=>rfl
 | [_],_=>rfl
 |x::y::r,h=>by show fH x (iF (y::r))=_;rw[KW (y::r) h.2];show(if nU y x then _ else _)=_;rw[h.1];rfl
theorem Ui (h:x.1≠[]):uR (pkS x)=true:=by
 obtain⟨l,hl⟩:=x;cases l with
 |nil=>exact absurd rfl h
 |cons p r=>show((p::r).map pr).all (z2l [Z6,Z7])=Z7;refine bb.mpr λd hd=>?_;obtain⟨q,_,rfl⟩:=bx.mp hd;rfl
theorem KY:∀l m:P,l≠m->(aD (l.map pr) (m.map pr)||aD (m.map pr) (l.map pr))=Z7
 | [],[],h=>absurd rfl h
 | [],_::_,_=>rfl
 |_::_,[],_=>rfl
 |x::l,y::m,h=>by
  show((if bT (pr x) (pr y)then aD (l.map pr) (m.map pr)else bB (pr x) (pr y))||(if bT (pr y) (pr x)then aD (m.map pr) (l.map pr)else bB (pr y) (pr x)))=Z7;rw[A3,A3];by_cases e:x=y
  .rw[vh (vq e),vh (vq e.symm)];exact KY l m λz=>h (by rw[e,z])
  .rw[vm (by rw[vr e];exact cv),vm (by rw[vr (Ne.symm e)];exact cv),FX,FX];by_cases k:x.1=y.1
   .rw[vh k,vh k.symm];have:x.2≠y.2:=λz=>e (u5 k z);rw[<-Bool.decide_or];exact vq (by omega)
   .rw[vm k,vm (Ne.symm k),<-Bool.decide_or];exact vq (AJ k)
theorem KZ:∀{l:List PS},l.Nodup->difB (l.map pkS)=Z7
 | [],_=>rfl
 |x::l,h=>by obtain⟨h1,h2⟩:=cy.mp h;show(((l.map pkS).all λy=>bB (pkS x) y||bB y (pkS x))&&difB (l.map pkS))=Z7;rw[KZ h2,Bool.and_true,List.all_map];exact bb.mpr λy hy=>KY x.1 y.1 λe=>h1 (Subtype.ext e▸hy)
theorem K0 {l:List PS}(h:l.length<=127)(nd:l.Nodup)(k:l.length<2\/∀x∈l,x.1≠[]):aggD "sorted" Z7 (l.map pkS)=.ok (.list ((iF l).map pkS)):=by
 have ne:(∀x∈l,x.1≠[])->(l.map pkS).all uR=true:=λk=>bb.mpr λd hd=>by obtain⟨c,hc,rfl⟩:=bx.mp hd;exact Ui (k c hc)
 have hk:oJ (l.map pkS)=true:=by
  unfold oJ;rcases k with k|k
  .rw[ae,vq k,ke,ln]
  .rw[ne k,ke,ln,ln]
 show(if(Z7&&oJ (l.map pkS)&&decide ((l.map pkS).length<64))=Z7 then Res.ok (Z1 (z0r (l.map pkS)))else if(Z7&&z7p (l.map pkS))=Z7 then Res.ok (Z1 (z0r (l.map pkS)))else .no)=_;rw[hk,KP];by_cases h6:(l.map pkS).length<64
 .rw[vq h6];rfl
 .have hb:z7p (l.map pkS)=true:=by
   unfold z7p;rw[KZ nd];rw[ae]at h6 ⊢;rw[vq (show 64<=l.length by omega),vq h,ne (k.resolve_left (by omega))];rfl
  rw[vr h6,hb];rfl
abbrev gp (l:P)(R:PS):List Str:=ov l R.1
def sz (l:P)(Rs:List PS):Nat:=(Rs.map λR=>(gp l R).length).foldl (· * ·) 1
structure Ms (l:P)(Rs M:List PS):Prop where
 len:M.length=sz l Rs
 le:∀m∈M,∀n,dP m n<=look l n
 on:∀m∈M,∀n,0<dP m n->∃R∈Rs,n∈gp l R
 ct:∀m∈M,∀R∈Rs,((ks m.1).filter λn=>decide (n∈gp l R)).length=1
 cn:∀m∈M,(ks m.1).length=Rs.length
 nd:M.Nodup
structure A4 (l:P)(Rs:List PS)(R:PS):Prop where
 eq:∀n,n∉gp l R->look l n<=dP R n
 dj:∀R'∈Rs,∀n,n∈gp l R'->n∉gp l R
theorem Ms.start {l:P}(hl:PK l):Ms l [] [⟨[],PK.nil⟩] where
 len:=rfl
 le:=λm hm n=>by rw[cq.mp hm];exact hl.cJ n
 on:=λm hm n h=>by rw[cq.mp hm]at h;cases h
 ct:=λ_ _ _ h=>by cases h
 cn:=λm hm=>by rw[cq.mp hm];rfl
 nd:=cy.mpr ⟨nofun,n4⟩
theorem A5 {m:PS}{n:Str}:n∈ks m.1↔0<dP m n:=m.2.key
theorem K1 {a:PS}{n:Str}{v:Int}(hv:0<v)(hz:dP a n=0):(ks (dW a n v).1).Perm (n::ks a.1):=by
 have hn:n∉ks a.1:=λz=>by have:=A5.mp z;omega
 refine(n6 (dW a n v).2.nd (cy.mpr ⟨hn,a.2.nd⟩)).mpr λk=>?_;rw[A5,ay,A5];by_cases e:k=n
 .subst e;rw[Kw _ _ _ hv,hz];exact⟨λ_=>.inl rfl,λ_=>by omega⟩
 .rw[vW _ _ _ _ hv e];exact⟨.inr,λh=>h.resolve_left e⟩
theorem K2 {α β:Type}(f:α->List β)(k:Nat):∀l:List α,(∀a∈l,(f a).length=k)->(l.flatMap f).length=l.length*k
 | [],_=>by simp
 |a::l,h=>by rw[lu,ao,bo,uw,h a (.head _),K2 f k l λb hb=>h b (.tail _ hb)];omega
theorem K3 (l:P)(Rs:List PS)(R:PS):sz l (Rs++[R])=sz l Rs*(gp l R).length:=by unfold sz;rw[dh,ls];rfl
theorem Ms.all {l:P}(hl:PK l){Rs M:List PS}{R:PS}(h:Ms l Rs M)(b:A4 l Rs R):nT dP gI dW M R (gp l R)=(gp l R).flatMap λn=>M.map λc=>dW c n (dP R n+1):=by
 have z:∀m∈M,∀n∈gp l R,dP m n=0:=λm hm n hn=>by
  have:=tX m n;have:¬0<dP m n:=λp=>by obtain⟨R',h1,h2⟩:=h.on m hm n p;exact b.dj R' h1 n h2 hn
  omega
 refine Ua (λm hm=>(Ud m R).mpr λn=>?_) z;by_cases e:n∈gp l R
 .rw[z m hm n e];exact tX R n
 .exact Int.le_trans (h.le m hm n) (b.eq n e)
theorem Ms.step {l:P}(hl:PK l){Rs M:List PS}{R:PS}(h:Ms l Rs M)(b:A4 l Rs R):Ms l (Rs++[R]) (nT dP gI dW M R (gp l R)):=by
 rw[h.all hl b]
 have z:∀m∈M,∀n∈gp l R,dP m n=0:=λm hm n hn=>by
  have:=tX m n;have:¬0<dP m n:=λp=>by obtain⟨R',h1,h2⟩:=h.on m hm n p;exact b.dj R' h1 n h2 hn
  omega
 have v0:∀n,0<dP R n+1:=λn=>by have:=tX R n;omega
 have mm:∀{m},m∈((gp l R).flatMap λn=>M.map λc=>dW c n (dP R n+1))↔∃n∈gp l R,∃c∈M,dW c n (dP R n+1)=m:=λ{m}=>by rw[List.mem_flatMap];exact exists_congr λn=>and_congr_right λ_=>bx
 have K4:∀{c n},c∈M->n∈gp l R->dP (dW c n (dP R n+1)) n=dP R n+1:=λ{c n} hc hn=>by rw[Kw _ _ _ (v0 n),z c hc n hn];have:=v0 n;omega
 refine⟨?_,λm hm k=>?_,λm hm k hk=>?_,λm hm R' hR=>?_,λm hm=>?_,?_⟩
 .rw[K2 _ M.length _ λn _=>ae ..,h.len,K3,Nat.mul_comm]
 .obtain⟨n,hn,c,hc,rfl⟩:=mm.mp hm;by_cases e:k=n
  .subst e;rw[K4 hc hn];have:=(FR hl R.2 k).mp hn;exact this
  .rw[vW _ _ _ _ (v0 n) e];exact h.le c hc k
 .obtain⟨n,hn,c,hc,rfl⟩:=mm.mp hm;by_cases e:k=n
  .subst e;exact⟨R,ax _ (.head _),hn⟩
  .rw[vW _ _ _ _ (v0 n) e]at hk;obtain⟨R',h1,h2⟩:=h.on c hc k hk;exact⟨R',fh _ h1,h2⟩
 .obtain⟨n,hn,c,hc,rfl⟩:=mm.mp hm;rw[((K1 (v0 n) (z c hc n hn)).filter _).length_eq];rcases d9.mp hR with hR|hR
  .rw[jr (by rw[decide_eq_true_iff];exact λq=>b.dj R' hR n q hn)];exact h.ct c hc R' hR
  .rw[cq.mp hR,jq (p:=λn=>decide (n∈gp l R)) (vq hn),bo,jy.mpr]
   .rfl
   .intro k hk q;have:=z c hc k (vp q);have:=A5.mp hk;omega
 .obtain⟨n,hn,c,hc,rfl⟩:=mm.mp hm;rw[(K1 (v0 n) (z c hc n hn)).length_eq,bo,h.cn c hc,ao];rfl
 .refine List.pairwise_flatMap.mpr ⟨λn hn=>ik.mpr (jh (λ{a a'} ha DT fW e=>fW (Uc _ _ λk=>?_)) h.nd),jh (λ{n n'} hn Bm fW x hx y hy e=>fW ?_) (Kz hl)⟩
  .by_cases q:k=n
   .rw[q,z a ha n hn,z a' DT n hn]
   .rw[<-vW a n (dP R n+1) k (v0 n) q,e,vW _ _ _ _ (v0 n) q]
  .obtain⟨c,hc,rfl⟩:=bx.mp hx;obtain⟨c',y3,rfl⟩:=bx.mp hy;exact Classical.byContradiction λq=>by have h1:=K4 hc hn;rw[e,vW _ _ _ _ (v0 n') q,z c' y3 n hn]at h1;have:=v0 n;omega
section
variable {Κ:List D}{Φ:List Fn}{ρ aL:Rho}{p q:S}{c:C}{k:Bool}{cl:Str}{ds:List D}{n:Nat}
structure Xx (Κ:List D)(Φ:List Fn)(s:S)(ρ:Rho)(c:Str):Prop where
 no:aH Κ Φ s ρ=.no
 x:fC Κ Φ s ρ=Z9 c
theorem Uj {s:S}(h:Xx Κ Φ s (ds.map (λd=>Z9 (.od,d))++b8 (n-ds.length) Z8) cl):aV Κ Φ n s ds=.exc (.str cl):=by unfold aV;rw[h.no,h.x]
theorem FY (h:Xx Κ Φ p ρ cl):Xx Κ Φ (.seq p q) ρ cl:=by
 refine⟨?_,?_⟩
 .show lQ (aH Κ Φ p ρ) _=_;rw[h.no];rfl
 .show(match aH Κ Φ p ρ with|.ok (.nx aL)=>fC Κ Φ q aL|.ok _=>Z8|_=>fC Κ Φ p ρ)=_;rw[h.no];exact h.x
theorem FZ (e:aH Κ Φ p ρ=.ok (.nx aL))(h:Xx Κ Φ q aL cl):Xx Κ Φ (.seq p q) ρ cl:=by refine⟨cT e h.no,?_⟩;show(match aH Κ Φ p ρ with|.ok (.nx aL)=>fC Κ Φ q aL|.ok _=>Z8|_=>fC Κ Φ p ρ)=_;rw[e];exact h.x
theorem Uk (hc:Tt Κ Φ c ρ k)(hk:k=Z7)(h:Xx Κ Φ p ρ cl):Xx Κ Φ (.dJ c p q) ρ cl:=by
 subst hk;refine⟨?_,?_⟩
 .show(dN Κ Φ c ρ>>=λk=>if k then aH Κ Φ p ρ else aH Κ Φ q ρ)=_;rw[hc,Res.aB,vh rfl,h.no]
 .show(match dN Κ Φ c ρ with|.ok k=>if k then fC Κ Φ p ρ else fC Κ Φ q ρ|_=>rV Κ Φ c ρ)=_;rw[hc];exact h.x
theorem K5 {β:Type}{f:D->Rho->Res Out}{g:D->Rho->Option Str}{m:β->D}{y:β}{post:List β}(I:List β->Rho->Prop):∀(xs pre:List β) (ρ:Rho),(∀F0 x dU ρ,pre++xs=F0++x::dU->I F0 ρ->∃aL,f (m x) ρ=.ok (.nx aL)/\I (F0++[x]) aL)->(∀ρ,I (pre++xs) ρ->f (m y) ρ=.no/\g (m y) ρ=Z9 cl)->I pre ρ->cY f ((xs++y::post).map m) ρ=.no/\eS f g ((xs++y::post).map m) ρ=Z9 cl
 | [],pre,ρ,_,hy,h=>by rw[e9]at hy;obtain⟨h1,h2⟩:=hy ρ h;exact⟨by show cY f (m y::_) ρ=_;rw[cY,h1],by show eS f g (m y::_) ρ=_;rw[eS,h1];exact h2⟩
 |x::xs,pre,ρ,hf,hy,h=>by
  obtain⟨aL,e,h'⟩:=hf pre x xs ρ rfl h;have e2:pre++x::xs=(pre++[x])++xs:=by simp
  obtain⟨h1,h2⟩:=K5 I xs (pre++[x]) aL (λa b c r hh=>hf a b c r (e2.trans hh)) (λr hr=>hy r (by rw[e2];exact hr)) h';exact⟨by show cY f (m x::_) ρ=_;rw[cY,e];exact h1,by show eS f g (m x::_) ρ=_;rw[eS,e];exact h2⟩
theorem zp2 {β:Type}{j:Nat}{it:C}{g:G}{m:β->D}{xs post:List β}{y:β}{ρ1:Rho}(h:evF Κ Φ it ρ=.ok (g,(xs++y::post).map m,ρ1))(hm:∀x,imm (m x)=Z7)(I:List β->Rho->Prop)(h0:I [] ρ1)
  (hf:∀pre x dU ρ,xs=pre++x::dU->I pre ρ->Nx (I (pre++[x])) (aH Κ Φ p (ρ.set j (Z9 (.al,m x))))) (hy:∀ρ,I xs ρ->Xx Κ Φ p (ρ.set j (Z9 (.al,m y))) cl):Xx Κ Φ (.bN (.nm j) it p) ρ cl:=by
 have k:=K5 (f:=λx ρ1=>cX (.nm j) (gJ x g,x) ρ1>>=λbL=>aH Κ Φ p bL) (g:=λx ρ1=>match cX (.nm j) (gJ x g,x) ρ1 with|.ok bL=>fC Κ Φ p bL|_=>Z8) (m:=m) (y:=y) (post:=post) (cl:=cl) I xs [] ρ1 (λpre x dU ρ hx hI=>by
  obtain⟨aL,h1,h2⟩:=hf pre x dU ρ hx hI;exact⟨aL,by rw[mR (hm x),Res.aB,h1],h2⟩) (λρ hI=>by
  have:=hy ρ hI;exact⟨by rw[mR (hm y),Res.aB,this.no],by rw[mR (hm y)];exact this.x⟩) h0
 refine⟨Ft h k.1,?_⟩;show(match evF Κ Φ it ρ with|.ok w=>eS (λx ρ1=>cX (.nm j) (gJ x w.1,x) ρ1>>=λbL=>aH Κ Φ p bL) (λx ρ1=>match cX (.nm j) (gJ x w.1,x) ρ1 with|.ok bL=>fC Κ Φ p bL|_=>Z8) w.2.1 w.2.2|_=>Z8)=_;rw[h];exact k.2
end
def toS (l:P):PS:=⟨gr l,FE l⟩
theorem K6 (h:PK l):(toS l).1=l:=PK.ext (FE l) h λn=>by have:=FH h PK.nil n;unfold jn at this;rw[e9]at this;refine Eq.trans this ?_;have:=h.cJ n;show max (look l n) 0=_;omega
theorem vX (hf:PK f)(c:PK a):PK (own b f a):=by cases b<;>assumption
abbrev Ru26:=Bool×P×P×P
def mr (p:Ru26):D:=rl p.1 p.2.1 p.2.2.1 p.2.2.2
theorem vY (p:Ru26):imm (mr p)=true:=TX _ _ _ _
theorem Ul (c b:Bool):cmpD .NotEq (.str (sd c)) (.str (sd b))=.ok (decide (c≠b)):=by cases c<;>cases b<;>rfl
theorem Um {Κ:List D}{Φ:List Fn}{ρ:Rho}{k:Nat}{x:Str}{d:D}(h:Κ[k]?=Z9 d)(hi:imm d=Z7):Vv Κ Φ (.glob k x) ρ d:=⟨by rw[Tf,h];show(if imm d=Z7 then _ else _)=_;rw[vh hi],hi⟩
structure Br (b:Bool)(f a:P)(p:Ru26):Prop where
 sn:p.1≠b
 pf:PK p.2.1
 pa:PK p.2.2.1
 pw:wi p.2.2.2 (own p.1 f a)=Z7
def rB (b:Bool)(p:Ru26):PS:=toS (own b p.2.1 p.2.2.1)
abbrev lC:List D:=[.int 100]
abbrev lD:List Fn:=[iE,pO,mL]
abbrev PL:S:=.seq (.dJ (.and (.tv (.cmp .NotEq (.ix (.var 5) (.int 1)) (.var 2))) (.tv (.call 0 "within" (.cons (.ix (.var 5) (.int 2)) (.cons (.call 1 "side_of" (.cons (.var 1) (.cons (.ix (.var 5) (.int 1)) .nil))) .nil))))) (.seq (.asg (.nm 4) (.call 2 "beyond" (.cons (.var 4) (.cons (.var 3) (.cons (.call 1 "side_of" (.cons (.ix (.var 5) (.int 0)) (.cons (.var 2) .nil))) .nil))))) .nil) .nil) (.seq (.dJ (.tv (.cmp .Gt (.bi "len" (.cons (.var 4) .nil)) (.glob 0 "MOST_REASONS"))) (.seq (.qD "TooMuch") .nil) .nil) .nil)
section
variable {b:Bool}{f a:P}(hf:PK f)(ha:PK a)(hl:(own b f a).length<=30)
abbrev hd (b:Bool)(f a:P)(hf:PK f)(ha:PK a):PS:=⟨own b f a,vX hf ha⟩
abbrev ρL (b:Bool)(f a:P)(bk:D)(M:List PS)(u:Option GD):Rho:=[Z9 (.od,bk),Z9 (.od,gH f a),Z9 (.od,.str (sd b)),Z9 (.al,pk (own b f a)),Z9 (.fr,.list (M.map pkS)),u]
include hf ha hl in
theorem zf1 (bk:D){M:List PS}{p:Ru26}(hp:Br b f a p)(hc:∀c∈M,c.1.length<=20)(l1:M.length<=100)(l2:M.length+(gp (own b f a) (rB b p)).length*M.length<=1000):
  ((nT dP gI dW M (rB b p) (gp (own b f a) (rB b p))).length<=100->aH lC lD PL (ρL b f a bk M (Z9 (.al,mr p)))=.ok (.nx (ρL b f a bk (nT dP gI dW M (rB b p) (gp (own b f a) (rB b p))) (Z9 (.al,mr p)))))/\
  (100<(nT dP gI dW M (rB b p) (gp (own b f a) (rB b p))).length->Xx lC lD PL (ρL b f a bk M (Z9 (.al,mr p))) "TooMuch"):=by
 have p1:∀{M:List PS},Vv lC lD (.ix (.var 5) (.int 1)) (ρL b f a bk M (Z9 (.al,mr p))) (.str (sd p.1)):=bJ (aC rfl) aN.e rfl rfl;have p2:∀{M:List PS},Vv lC lD (.ix (.var 5) (.int 2)) (ρL b f a bk M (Z9 (.al,mr p))) (pk p.2.2.2):=bJ (aC rfl) aN.e rfl (cS _);have p0:∀{M:List PS},Vv lC lD (.ix (.var 5) (.int 0)) (ρL b f a bk M (Z9 (.al,mr p))) (gH p.2.1 p.2.2.1):=bJ (aC rfl) aN.e rfl (FI _ _);have qO:Tt lC lD (.and (.tv (.cmp .NotEq (.ix (.var 5) (.int 1)) (.var 2))) (.tv (.call 0 "within" (.cons (.ix (.var 5) (.int 2)) (.cons (.call 1 "side_of" (.cons (.var 1) (.cons (.ix (.var 5) (.int 1)) .nil))) .nil))))) (ρL b f a bk M (Z9 (.al,mr p))) (decide (p.1≠b)&&wi p.2.2.2 (own p.1 f a)):=TB (bM (gD p1.e (aC rfl) (Ul _ _)).e rfl) λ_=>bM (cU (aF p2.e (aF (cU (aF (aC rfl) (aF p1.e aZ)) rfl (A2 p.1 f a) (cS _)).e aZ)) rfl (pT (vX hf ha)) rfl).e rfl;rw[vq hp.sn,hp.pw]at qO;have hg:∀{M':List PS},Tt lC lD (.tv (.cmp .Gt (.bi "len" (.cons (.var 4) .nil)) (.glob 0 "MOST_REASONS"))) (ρL b f a bk M' (Z9 (.al,mr p))) (decide ((100:Int)<(M'.length:Int))):=λ{M'}=>bM (gD (k:=decide ((100:Int)<(M'.length:Int))) (eB (d:=.int ((M'.map pkS).length:Int)) (aF (aC rfl) aZ) rfl rfl).e (Um (d:=.int 100) rfl rfl).e (by show Res.ok (decide ((100:Int)<((M'.map pkS).length:Int)))=_;rw[ae])).e rfl;have eR:(rB b p).1=own b p.2.1 p.2.2.1:=K6 (vX hp.pf hp.pa);have Uo:=FW M (hd b f a hf ha) (rB b p) hc (by omega) l2
 have h1:aH lC lD (.dJ (.and (.tv (.cmp .NotEq (.ix (.var 5) (.int 1)) (.var 2))) (.tv (.call 0 "within" (.cons (.ix (.var 5) (.int 2)) (.cons (.call 1 "side_of" (.cons (.var 1) (.cons (.ix (.var 5) (.int 1)) .nil))) .nil))))) (.seq (.asg (.nm 4) (.call 2 "beyond" (.cons (.var 4) (.cons (.var 3) (.cons (.call 1 "side_of" (.cons (.ix (.var 5) (.int 0)) (.cons (.var 2) .nil))) .nil))))) .nil) .nil) (ρL b f a bk M (Z9 (.al,mr p)))=.ok (.nx (ρL b f a bk (nT dP gI dW M (rB b p) (gp (own b f a) (rB b p))) (Z9 (.al,mr p)))):=by
  refine tT qO (λ_=>cT (gF (qU (aF (aC rfl) (aF (aC rfl) (aF (cU (d:=pk (own b p.2.1 p.2.2.1)) (aF p0.e (aF (aC rfl) aZ)) rfl (A2 b _ _) (cS _)).e aZ))) rfl ?_) (mS _)) gG) λz=>by cases z
  rw[<-eR];exact Uo
 refine⟨λh=>cT h1 (cT (tT hg (λz=>?_) λ_=>gG) gG),λh=>FZ h1 (FY (Uk hg (vq (by omega)) (FY ⟨rfl,rfl⟩)))⟩;have:=vp z;omega
structure Bk (b:Bool)(f a:P)(hf:PK f)(ha:PK a)(ps:List Ru26):Prop where
 br:∀p∈ps,Br b f a p
 bar:∀pre p post,ps=pre++p::post->A4 (own b f a) (pre.map (rB b)) (rB b p)
 n:ps.length<=20
 g:∀pre p post,ps=pre++p::post->sz (own b f a) ((pre++[p]).map (rB b))<=900
include hl in
theorem z62 (bk:D){ps:List Ru26}(hb:Bk b f a hf ha ps){pre post:List Ru26}{p:Ru26}(he:ps=pre++p::post){ρ:Rho}(hI:∃M u,ρ=ρL b f a bk M u/\Ms (own b f a) (pre.map (rB b)) M)(hs:sz (own b f a) (pre.map (rB b))<=100):
  (sz (own b f a) ((pre++[p]).map (rB b))<=100->∃aL,aH lC lD PL (ρ.set 5 (Z9 (.al,mr p)))=.ok (.nx aL)/\∃M u,aL=ρL b f a bk M u/\Ms (own b f a) ((pre++[p]).map (rB b)) M)/\(100<sz (own b f a) ((pre++[p]).map (rB b))->Xx lC lD PL (ρ.set 5 (Z9 (.al,mr p))) "TooMuch"):=by
 obtain⟨M,u,rfl,h⟩:=hI;have hm:p∈ps:=by rw[he];exact ax _ a8
 have h2:=h.step (vX hf ha) (hb.bar pre p post he);rw[show pre.map (rB b)++[rB b p]=(pre++[p]).map (rB b) by rw[dh];rfl]at h2;have hn:pre.length<=20:=by have:=congrArg kz he;rw[ao]at this;have:=hb.n;omega
 have hM:=h.len;have st:=zf1 hf ha hl bk (M:=M) (hb.br p hm) (λc hc=>by have :=h.cn c hc;rw[ae]at this;unfold ks at this;rw[ae]at this;omega) (by omega) (by have hg:=hb.g pre p post he;rw[dh,show[p].map (rB b)=[rB b p]from rfl,K3,Nat.mul_comm,<-hM]at hg;omega);rw[h2.len]at st;exact⟨λk=>⟨_,st.1 k,_,_,rfl,h2⟩,λk=>st.2 k⟩
include hl in
theorem zcz {ps:List Ru26}(hb:Bk b f a hf ha ps)(hs:∀pre post,ps=pre++post->sz (own b f a) (pre.map (rB b))<=100):
  ∃M:List PS,(Ms (own b f a) (ps.map (rB b)) M/\pU M)/\mM [.list (ps.map mr),gH f a,.str (sd b)]=.ok (.fr,.list (M.map pkS)):=by
 suffices h:∃M:List PS,(Ms (own b f a) (ps.map (rB b)) M/\pU M)/\aH lC lD vS [Z9 (.od,.list (ps.map mr)),Z9 (.od,gH f a),Z9 (.od,.str (sd b)),Z8,Z8,Z8]=.ok (.rt .fr (.list (M.map pkS))) by obtain⟨M,h1,h2⟩:=h;exact⟨M,h1,fA h2⟩
 let Q:Res Out->Prop:=λz=>∃M:List PS,(Ms (own b f a) (ps.map (rB b)) M/\pU M)/\z=.ok (.rt .fr (.list (M.map pkS)))
 show Q _;unfold vS;refine aW (eN (d:=pk (own b f a)) (cU (aF (aC rfl) (aF (aC rfl) aZ)) rfl (A2 b f a) (cS _))) ?_;refine aW (gF (xs:=[(⟨[],PK.nil⟩:PS)].map pkS) (gE (aU (eD bS) bS)) rfl) ?_;refine q_nm (m:=mr) (xs:=ps) (g:=.od) (ρ1:=ρL b f a (.list (ps.map mr)) [⟨[],PK.nil⟩] Z8) (mJ rfl rfl rfl) vY (λpre ρ=>∃M u,ρ=ρL b f a (.list (ps.map mr)) M u/\Ms (own b f a) (pre.map (rB b)) M) ⟨_,Z8,rfl,Ms.start (vX hf ha)⟩ ?_ ?_
 .intro pre p post ρ hx hI;exact(z62 hf ha hl _ hb hx hI (hs pre (p::post) hx)).1 (hs (pre++[p]) post (by rw[hx];simp))
 .rintro ρ ⟨M,u,rfl,h⟩
  have hM:=h.len;have h1:=hs ps [] (by simp)
  have hk:M.length<2\/∀x∈M,x.1≠[]:=by
   cases ps with
   |nil=>exact .inl (by rw[hM];show 1<2;decide)
   |cons p ps=>refine .inr λx hx e=>?_;have:=h.cn x hx;rw[e]at this;cases this
  refine eX (AN (λi z=>by cases z) (vQ (w:=(Z7,M.map pkS)) (aC rfl) rfl (K0 (by omega) h.nd hk) (mS _))) ⟨iF M,⟨?_,KU M⟩,rfl⟩;have pm:=KR M;exact⟨by rw[pm.length_eq];exact h.len,λm hm=>h.le m (pm.mem_iff.mp hm),λm hm=>h.on m (pm.mem_iff.mp hm),λm hm=>h.ct m (pm.mem_iff.mp hm),λm hm=>h.cn m (pm.mem_iff.mp hm),pm.nodup_iff.mpr h.nd⟩
include hl in
theorem ziy {ps post:List Ru26}{p:Ru26}(hb:Bk b f a hf ha (ps++[p]))(hs:∀pre post,ps=pre++post->sz (own b f a) (pre.map (rB b))<=100)(h1:100<sz (own b f a) ((ps++[p]).map (rB b))):
  mM [.list ((ps++p::post).map mr),gH f a,.str (sd b)]=.exc (.str "TooMuch"):=by
 refine Uj (ds:=[.list ((ps++p::post).map mr),gH f a,.str (sd b)]) ?_;show Xx lC lD vS [Z9 (.od,.list ((ps++p::post).map mr)),Z9 (.od,gH f a),Z9 (.od,.str (sd b)),Z8,Z8,Z8] "TooMuch";unfold vS;refine FZ (eN (d:=pk (own b f a)) (cU (aF (aC rfl) (aF (aC rfl) aZ)) rfl (A2 b f a) (cS _))) ?_;refine FZ (gF (xs:=[(⟨[],PK.nil⟩:PS)].map pkS) (gE (aU (eD bS) bS)) rfl) ?_;refine FY (zp2 (m:=mr) (xs:=ps) (y:=p) (post:=post) (g:=.od) (ρ1:=ρL b f a (.list ((ps++p::post).map mr)) [⟨[],PK.nil⟩] Z8) (mJ rfl rfl rfl) vY (λpre ρ=>∃M u,ρ=ρL b f a (.list ((ps++p::post).map mr)) M u/\Ms (own b f a) (pre.map (rB b)) M) ⟨_,Z8,rfl,Ms.start (vX hf ha)⟩ ?_ ?_)
 .intro pre q dU ρ hx hI;exact(z62 hf ha hl _ hb (pre:=pre) (p:=q) (post:=dU++[p]) (by rw[hx];simp) hI (hs pre (q::dU) hx)).1 (hs (pre++[q]) dU (by rw[hx];simp))
 .intro ρ hI;exact(z62 hf ha hl _ hb (pre:=ps) (p:=p) (post:=[]) rfl hI (hs ps [] (by simp))).2 h1
end
theorem tY (c:Int){k:Int}(h0:0<=k)(h1:k<=1000):∃m,(0<=m/\m<2147483647)/\fG [.int c,.int k]=.ok (.fr,.int m):=by have hc:=mx c (show(1000000007:Int)≠0 by decide);have hd:=n7 c (show(0:Int)<1000000007 by decide);generalize ha:c%1000000007+31*k+1=a;refine⟨(a*a%2147483629*(k+7))%2147483647,⟨mx _ (by decide),n7 _ (by decide)⟩,fA ?_⟩;unfold Fv;refine cT (eN (d:=.int a) (by rw[<-ha];exact bQ (bQ (bQ (aC rfl) aN.e (kL (by decide)) rfl).e (bQ aN.e (aC rfl) (vN (by decide)) rfl).e rfl rfl).e aN.e rfl rfl)) ?_;exact jK (iK (bQ (bQ (bQ (bQ (aC rfl) (aC rfl) (vN ⟨by omega,by omega⟩) rfl).e aN.e (kL (by decide)) rfl).e (bQ (aC rfl) aN.e rfl rfl).e (JW ⟨by omega,by omega⟩) rfl).e aN.e (kL (by decide)) rfl))
theorem A6 (xs:List Int){k:Int}(h0:0<=k)(h1:k<=1000):∃c,mO [.list (xs.map .int),.int k]=.ok (.fr,.int c):=by
 have hc:Tt [] [] (.tv (.cmp .Lt (.var 1) (.bi "len" (.cons (.var 0) .nil)))) [Z9 (.od,.list (xs.map .int)),Z9 (.od,.int k)] (decide (k<xs.length)):=bM (gD (k:=decide (k<(xs.length:Int))) (aC rfl) (eB (aF (aC rfl) aZ) (T2 xs) rfl).e rfl).e rfl;by_cases h:k<xs.length
 .refine⟨xs.getD k.toNat 0,fA ?_⟩;unfold AQ;exact TK hc (vq h) (jK (iK (bJ (aC rfl) (aC rfl) (Ta h0 h) rfl)))
 .refine⟨3*k+1,fA ?_⟩;unfold AQ;exact J8 hc (vr h) (jK (iK (bQ (bQ aN.e (aC rfl) (vN (by decide)) rfl).e aN.e rfl rfl)))
def pd (ss:List Nat):Nat:=ss.foldl (· * ·) 1
def iN (n:Nat):D:=.int n
theorem qV (n:Nat):imm (iN n)=true:=rfl
theorem qW (ss:List Nat)(s:Nat):pd (ss++[s])=pd ss*s:=by unfold pd;rw[ls];rfl
theorem K7:∀(ss:List Nat) (a:Nat),(∀s∈ss,0<s)->a<=ss.foldl (· * ·) a
 | [],a,_=>ah a
 |s::ss,a,h=>by have h1:=h s (.head _);exact cc (Nat.le_mul_of_pos_right a h1) (K7 ss (a*s) λt ht=>h t (.tail _ ht))
theorem Up {pre post:List Nat}(h:∀s∈pre++post,0<s):pd pre<=pd (pre++post):=by unfold pd;rw[ls];exact K7 post _ λs hs=>h s (ax _ hs)
theorem F3 {ss:List Nat}(h:∀s∈ss,0<s/\s<=100):pS [.list (ss.map iN)]=.ok (.fr,iN (pd ss)):=by
 refine fA ?_
 let Q:Res Out->Prop:=λz=>z=.ok (.rt .fr (iN (pd ss)))
 show Q _;unfold Fw;refine aW (eN aN) ?_;refine q_nm (m:=iN) (xs:=ss) (g:=.od) (ρ1:=[Z9 (.od,.list (ss.map iN)),Z9 (.al,.int 1),Z8]) (mJ rfl rfl rfl) qV (λpre ρ=>∃u,ρ=[Z9 (.od,.list (ss.map iN)),Z9 (.al,iN (pd pre)),u]) ⟨Z8,rfl⟩ ?_ ?_
 .rintro pre s post ρ hx ⟨u,rfl⟩
  have hs:=h s (by rw[hx];exact ax _ (.head _));refine⟨_,cT (eN (d:=iN (pd (pre++[s]))) (bQ (aC rfl) (aC (d:=.int (s:Int)) rfl) ((JW ⟨by omega,by omega⟩).trans ?_) rfl)) gG,_,rfl⟩;rw[qW];show Res.ok (Z0 ((pd pre:Int)*(s:Int)))=.ok (.int ((pd pre*s:Nat):Int));rw[Int.natCast_mul]
 .rintro ρ ⟨u,rfl⟩
  exact eX (iK (v_var rfl rfl)) rfl
structure Ss (ss:List Nat):Prop where
 v:∀s∈ss,s=2\/s=3
 lo:10<=pd ss
 hi:pd ss<=27
 len:ss.length<=4
theorem Uq {xs:List Int}(hl:xs.length<=63):∃ss,Ss ss/\AS [.list (xs.map .int)]=.ok (.fr,.list (ss.map iN)):=by
 suffices h:∃ss,Ss ss/\aH [] [pS,fG,mO] AR [Z9 (.od,.list (xs.map .int)),Z8]=.ok (.rt .fr (.list (ss.map iN))) by obtain⟨ss,h1,h2⟩:=h;exact⟨ss,h1,fA h2⟩
 let Q:Res Out->Prop:=λz=>∃ss,Ss ss/\z=.ok (.rt .fr (.list (ss.map iN)))
 show Q _;unfold AR;refine aW (gF (gE bS) rfl) ?_;refine tJ (P:=λρ=>∃ss,Ss ss/\ρ=[Z9 (.od,.list (xs.map .int)),Z9 (.fr,.list (ss.map iN))]) (λk ρ=>∃ss:List Nat,ρ=[Z9 (.od,.list (xs.map .int)),Z9 (.fr,.list (ss.map iN))]/\(∀s∈ss,s=2\/s=3)/\ss.length+k=5/\pd ss<=27/\(ss.length<=3->2 ^ ss.length<=pd ss)/\(4<=ss.length->10<=pd ss)/\ss.length<=4) 5 (by decide) ⟨[],rfl,nofun,rfl,by decide,by decide,by decide,by decide⟩ ?_ ?_
 .rintro k ρ ⟨ss,rfl,hv,hk,hp,h3,h4,h5⟩
  have Ur:=F3 (ss:=ss) λs hs=>by rcases hv s hs with e|e<;>omega
  have hc:Tt [] [pS,fG,mO] (.tv (.cmp .Lt (.call 0 "_law_product" (.cons (.var 1) .nil)) (.int 10))) [Z9 (.od,.list (xs.map .int)),Z9 (.fr,.list (ss.map iN))] (decide ((pd ss:Int)<10)):=bM (gD (k:=decide ((pd ss:Int)<10)) (cU (aF (aC rfl) aZ) rfl Ur rfl).e aN.e rfl).e rfl;by_cases h:pd ss<10
  .rw[vq (show(pd ss:Int)<10 by omega)]at hc;obtain⟨c,F5⟩:=A6 xs (k:=(ss.length:Int)) (by omega) (by omega);obtain⟨m,⟨m0,m1⟩,Us⟩:=tY c (k:=1) (by decide) (by decide);have h6:ss.length<=3:=by omega
   refine .inr ⟨4-ss.length,_,by omega,hc,cT (AO (x:=iN (2+(m%2).toNat)) (bQ aN.e (bQ (cU (aF (cU (aF (aC rfl) (aF (eB (d:=.int (ss.length:Int)) (aF (aC rfl) aZ) (by show Res.ok (Z0 ((ss.map iN).length:Int))=_;rw[ae]) rfl).e aZ)) rfl F5 rfl).e (aF aN.e aZ)) rfl Us rfl).e aN.e (kL (by decide)) rfl).e ?_ rfl) rfl (by rw[ae];omega)) gG,ss++[2+(m%2).toNat],?_,?_,?_,?_,?_,?_,?_⟩
   .show Res.ok (Z0 (2+m%2))=.ok (.int ((2+(m%2).toNat:Nat):Int))
    congr 2
    omega
   .rw[dh];rfl
   .intro s hs;rcases d9.mp hs with hs|hs
    .exact hv s hs
    .rw[cq.mp hs];omega
   .rw[ao];show ss.length+1+_=_;omega
   .rw[qW];have:pd ss*(2+(m%2).toNat)<=9*3:=n5 (by omega) (by omega);omega
   .intro _;rw[qW,ao,lw,Nat.pow_succ];exact n5 (h3 h6) (by omega)
   .intro h7;rw[ao,lw]at h7;have e3:ss.length=3:=by omega
    have:=h3 h6;rw[e3]at this;rw[qW];have:8*2<=pd ss*(2+(m%2).toNat):=n5 (by omega) (by omega);omega
   .rw[ao];show ss.length+1<=4;omega
  .rw[vr (show ¬(pd ss:Int)<10 by omega)]at hc;exact .inl ⟨hc,ss,⟨hv,by omega,hp,h5⟩,rfl⟩
 .rintro ρ ⟨ss,h1,rfl⟩
  exact eX (z7h rfl) ⟨ss,h1,rfl⟩
def qX (c:Int)(k:Nat):Str:=(chr kN (c%21)++chr kN ((k/7:Nat):Int))++chr kN ((3*((k:Int)%7)+c/21%3)%21)
theorem Ut {c:Int}{k k':Nat}(hk:k<147)(VA:k'<147)(h:qX c k=qX c k'):k=k':=by have e2:=congrArg (λs:Str=>s.cps.toList) h;unfold qX at e2;rw[app_list,app_list,app_list,app_list]at e2;obtain⟨e3,e4⟩:=List.append_inj e2 (by rw[ao,ao];rfl);obtain⟨_,e5⟩:=List.append_inj e3 rfl;have a1:=Kj Kk (by rw[vU];omega) (by rw[vU];omega) (ET e5);have a2:=Kj Kk (by rw[vU];omega) (by rw[vU];omega) (ET e4);omega
theorem Uu {c:Int}(hc:0<=c){n:Nat}(hn:n<=60):∃ws:List Str,(Sw ws/\ws.length=n)/\AU [.int c,iN n]=.ok (.fr,.list (ws.map .str)):=by
 refine⟨iZ ((b9 n).map (qX c)),⟨Kr (ik.mpr (jh (λ{a b} ha hb z9 e=>z9 (Ut (by have:=jk.mp ha;omega) (by have:=jk.mp hb;omega) e)) List.nodup_range)),by rw[(FP _).length_eq,ae,ci]⟩,fA ?_⟩
 let Q:Res Out->Prop:=λz=>z=.ok (.rt .fr (.list ((iZ ((b9 n).map (qX c))).map .str)))
 show Q _;unfold Fx;refine aW (eN (d:=.str kN) iX) ?_;refine aW (gF (gE bS) rfl) ?_;refine q_nm (m:=iN) (xs:=b9 n) (g:=.fr) (ρ1:=[Z9 (.od,.int c),Z9 (.od,iN n),Z9 (.al,.str kN),Z9 (.fr,.list []),Z8,Z8]) (J6 (aF (aC rfl) aZ) (by have:=JX (n:=(n:Int)) (by omega) (by omega);rw[im]at this;exact this)) qV (λpre ρ=>∃u v,ρ=[Z9 (.od,.int c),Z9 (.od,iN n),Z9 (.al,.str kN),Z9 (.fr,.list ((pre.map (qX c)).map .str)),u,v]) ⟨Z8,Z8,rfl⟩ ?_ ?_
 .rintro pre k post ρ hx ⟨u,v,rfl⟩
  have hk:k<n:=jk.mp (by rw[hx];exact ax _ (.head _));have oU:pre.length<=60:=by have:=congrArg kz hx;rw[ci,ao]at this;omega
  have ix:∀{ρ:Rho} {t:C} {i:Int},ρ[2]?=Z9 (Z9 (.al,.str kN))->Vv [] [] t ρ (.int i)->0<=i->i<21->Vv [] [] (.ix (.var 2) t) ρ (.str (chr kN i)):=λh ht h0 h1=>bJ (aC h) ht.e (BY h0 (by rw[vU];omega) (by rw[vU];decide)) rfl;refine⟨_,cT (eN (d:=.str (chr kN ((3*((k:Int)%7)+c/21%3)%21))) (ix rfl (bQ (bQ (bQ aN.e (bQ (aC (d:=.int (k:Int)) rfl) aN.e (kL (by decide)) rfl).e (vN (by decide)) rfl).e (bQ (bQ (aC rfl) aN.e (FJ (by decide) (by decide)) rfl).e aN.e (kL (by decide)) rfl).e rfl rfl).e aN.e (kL (by decide)) rfl) (by omega) (by omega))) (cT (AO (x:=.str (qX c k)) (bQ (bQ (ix rfl (bQ (aC rfl) aN.e (kL (by decide)) rfl) (by omega) (by omega)).e (ix rfl (bQ (aC (d:=.int (k:Int)) rfl) aN.e (FJ (by decide) (by decide)) rfl) (by omega) (by omega)).e (add_str (by rw[yx,yx];decide)) rfl).e (aC rfl) (add_str (by rw[S8,yx,yx,yx];decide)) rfl) rfl (by rw[ae,ae];omega)) gG),Z9 (.al,iN k),Z9 (.al,.str (chr kN ((3*((k:Int)%7)+c/21%3)%21))),?_⟩;rw[dh,dh];rfl
 .rintro ρ ⟨u,v,rfl⟩
  refine eX (AN (λi z=>by cases z) (vQ (w:=(Z7,((b9 n).map (qX c)).map .str)) (aC rfl) rfl (T6 (by rw[ae,ci];omega)) (JY _))) rfl
theorem Uv (ws:List Str):kU "len" [.list (ws.map .str)]=.ok (iN ws.length):=by show Res.ok (Z0 ((ws.map Z2).length:Int))=_;rw[ae];rfl
theorem F6 {Φ:List Fn}{ρ:Rho}{t:C}{n:Nat}(h:Vv [] Φ t ρ (iN n))(hn:n<=1000):evF [] Φ (.iH (.cons t .nil)) ρ=.ok (.fr,(b9 n).map iN,ρ):=J6 (aF h.e aZ) (by have:=JX (n:=(n:Int)) (by omega) (by omega);rw[im]at this;exact this)
theorem F7 {n k:Nat}{pre post:List Nat}(h:b9 n=pre++k::post):pre=b9 k/\k<n:=by
 have hk:k<n:=jk.mp (by rw[h];exact ax _ (.head _));have hl:pre.length<n:=by have:=congrArg kz h;rw[ci,ao,bo]at this;omega
 have e:(b9 n)[pre.length]?=Z9 k:=by rw[h,dz (ah _),lm];rfl
 rw[r6 hl]at e;cases e;refine⟨?_,hk⟩;have:=congrArg (List.take pre.length) h;rw[qe,List.take_range,jb (by omega)]at this
 .exact this.symm
 .rfl
structure Rm (ws:List Str)(l:P):Prop where
 pk:PK l
 ks:ks l=ws
theorem K8:∀{ws:List Str} {as:List Int},ws.length=as.length->ks (ws.zip as)=ws
 | [],[],_=>rfl
 | [],_::_,h=>by cases h
 |_::_,[],h=>by cases h
 |w::ws,a::as,h=>by show w::ks (ws.zip as)=_;rw[K8 (Nat.succ.inj h)]
theorem K9 (l:P):aggD "tuple" Z7 (l.map pr)=.ok (pk l):=rfl
theorem Uw {xs:List Int}{ws:List Str}(hw:Sw ws)(hn:ws.length<=60):∃l,Rm ws l/\AW [.list (xs.map .int),.list (ws.map .str)]=.ok (.fr,pk l):=by
 suffices h:∃l,Rm ws l/\aH [] [fG,mO] AV [Z9 (.od,.list (xs.map .int)),Z9 (.od,.list (ws.map .str)),Z8,Z8,Z8]=.ok (.rt .fr (pk l)) by obtain⟨l,h1,h2⟩:=h;exact⟨l,h1,fA h2⟩
 let Q:Res Out->Prop:=λz=>∃l,Rm ws l/\z=.ok (.rt .fr (pk l))
 show Q _;unfold AV;refine aW (gF (gE bS) rfl) ?_;refine q_nm (m:=iN) (xs:=b9 ws.length) (g:=.fr) (F6 (eB (aF (aC rfl) aZ) (Uv ws) rfl) (by omega)) qV (λpre ρ=>∃(as:List Int) (u v:Option GD),(as.length=pre.length/\∀a∈as,0<a)/\ρ=[Z9 (.od,.list (xs.map .int)),Z9 (.od,.list (ws.map .str)),Z9 (.fr,.list ((ws.zip as).map pr)),u,v]) ⟨[],Z8,Z8,⟨rfl,nofun⟩,by rw[List.zip_nil_right];rfl⟩ ?_ ?_
 .rintro pre k post ρ hx ⟨as,u,v,⟨hl,hp⟩,rfl⟩
  obtain⟨rfl,hk⟩:=F7 hx;rw[ci]at hl;obtain⟨c,F5⟩:=A6 xs (k:=(k:Int)) (by omega) (by omega);obtain⟨m2,⟨a0,a1⟩,hm2⟩:=tY c (k:=2) (by decide) (by decide);obtain⟨m3,⟨b0,b1⟩,gP⟩:=tY c (k:=3) (by decide) (by decide);have K':∀{ρ:Rho} {j m:Int},ρ[0]?=Z9 (Z9 (.od,.list (xs.map .int)))->ρ[3]?=Z9 (Z9 (.al,iN k))->fG [.int c,.int j]=.ok (.fr,.int m)->Vv [] [fG,mO] (.call 0 "_law_mix" (.cons (.call 1 "_law_cell_at" (.cons (.var 0) (.cons (.var 3) .nil))) (.cons (.int j) .nil))) ρ (.int m):=λh0 h3 hm=>cU (aF (cU (aF (aC h0) (aF (aC (d:=.int (k:Int)) h3) aZ)) rfl F5 rfl).e (aF aN.e aZ)) rfl hm rfl
  have qY:∃mo,0<mo/\jU (.list [.int 1,.int 5,.int 1000000000000000000000000000000]) (.int (m2%3))=.ok (.int mo):=by
   rcases(show m2%3=0\/m2%3=1\/m2%3=2 by omega)with e|e|e<;>rw[e]
   .exact⟨1,by decide,rfl⟩
   .exact⟨5,by decide,rfl⟩
   .exact⟨1000000000000000000000000000000,by decide,rfl⟩
  obtain⟨mo,Ux,qY⟩:=qY;have VB:=mx (m3*1000000000000000000007) (show mo≠0 by omega);refine⟨_,cT (eN (d:=.int mo) (bJ (Ev.of (gE (aU aN (aU aN (aU TL bS))))) (bQ (K' rfl rfl hm2).e aN.e (kL (by decide)) rfl).e qY rfl)) (cT (AO (x:=pr (ws.getD k ⟨#[]⟩,1+m3*1000000000000000000007%mo)) (eD (aU (bJ (aC rfl) (aC (d:=.int (k:Int)) rfl) ((S9 (by omega) (by omega)).trans (by rw[im])) rfl) (aU (bQ aN.e (bQ (bQ (K' rfl rfl gP).e aN.e (vN ⟨by omega,by omega⟩) rfl).e (aC rfl) (kL Ux) rfl).e rfl rfl) bS))) rfl (by rw[ae,List.length_zip];omega)) gG),as++[1+m3*1000000000000000000007%mo],Z9 (.al,iN k),Z9 (.al,.int mo),⟨by rw[ao,hl,ao,ci];rfl,λa ha=>?_⟩,?_⟩
  .rcases d9.mp ha with ha|ha
   .exact hp a ha
   .rw[cq.mp ha];omega
  .have e:ws.zip (as++[1+m3*1000000000000000000007%mo])=ws.zip as++[(ws.getD k ⟨#[]⟩,1+m3*1000000000000000000007%mo)]:=by
    have La:ws=ws.take k++ws.getD k ⟨#[]⟩::ws.drop (k+1):=by rw[am,au hk];simp
    have hz:ws.zip as=(ws.take k).zip as:=by
     conv=>lhs;rw[La]
     rw[show as=as++[] by simp,List.zip_append (by rw[df,hl];omega)];simp
    rw[hz]
    conv=>lhs;rw[La]
    rw[List.zip_append (by rw[df,hl];omega)];simp
   rw[e,dh];rfl
 .rintro ρ ⟨as,u,v,⟨hl,hp⟩,rfl⟩
  rw[ci]at hl;exact eX (iK (vP (w:=(Z7,(ws.zip as).map pr)) (aC rfl) rfl (K9 _) (cS _))) ⟨ws.zip as,⟨⟨Ki hw,λp mT=>hp _ (kr mT).2⟩,K8 hl.symm⟩,rfl⟩
theorem Uy {Κ:List D}{Φ:List Fn}{ρ:Rho}{op op':CmpOp}{a b c:C}{x y z:D}{k k':Bool}(ha:Ev Κ Φ a ρ x)(hb:Ev Κ Φ b ρ y)(hc:Ev Κ Φ c ρ z)(h1:cmpD op x y=.ok k)(h2:cmpD op' y z=.ok k'):Vv Κ Φ (.chain op op' a b c) ρ (.bool (k&&k')):=by
 obtain⟨g1,ha⟩:=ha;obtain⟨g2,hb⟩:=hb;obtain⟨g3,hc⟩:=hc;refine⟨?_,rfl⟩;rw[Ti,ha,Res.aB,hb,Res.aB,h1,Res.aB];cases k with
 |false=>rfl
 |true=>rw[vh rfl,hc,Res.aB,h2];rfl
theorem Uz (h:aG Κ Φ t ρ=.ok (g,.tuple ds))(hs:oK ρ is ds g=Z9 aL):aH Κ Φ (.asg (.tp is) t) ρ=.ok (.nx aL):=by show(aG Κ Φ t ρ>>=λx=>cX (.tp is) x ρ>>=λaL=>Res.ok (Out.nx aL))=_;rw[h,Res.aB];show(Res.eK (oK ρ is ds g)>>=λaL=>Res.ok (Out.nx aL))=_;rw[hs];rfl
theorem Lb {Κ:List D}{Φ:List Fn}{ρ aL:Rho}{a:C}{x:D}{i:Nat}{xs:List D}(hv:Vv Κ Φ a ρ x)(hr:ρ[i]?=Z9 (Z9 (.fr,.list xs)))(hl:xs.length<1000)(e:(ρ.set i (Z9 (.fr,.list (xs++[x])))).map dV=aL):aH Κ Φ (.mut "append" i (.cons a .nil)) ρ=.ok (.nx aL):=by rw[<-e];exact AO hv hr hl
theorem Lc (l:P):kU "len" [pk l]=.ok (iN l.length):=by show Res.ok (Z0 ((l.map pr).length:Int))=_;rw[ae];rfl
theorem UA {l:P}{k:Nat}{p:Str×Int}(h:l[k]?=Z9 p):jU (pk l) (iN k)=.ok (pr p):=by have hk:=(aq.mp h).1;show Res.eK (cW (l.map pr) (k:Int))=_;rw[vM _ (k:Int) (pr p) (by omega) (by rw[ae];omega),im,am,a9,h];rfl
def pV (l:P)(fi si:Nat)(ql:P):Prop:=∀i p q,l[i]?=Z9 p->ql[i]?=Z9 q->q.1=p.1/\0<=q.2/\(fi<=i/\i<fi+si->q.2<p.2)/\(¬(fi<=i/\i<fi+si)->q.2=p.2)
structure iB (l:P)(fi si:Nat)(R:P):Prop where
 pk:PK R
 ins:∀i p,l[i]?=Z9 p->fi<=i/\i<fi+si->look R p.1<p.2
 out:∀i p,l[i]?=Z9 p->¬(fi<=i/\i<fi+si)->look R p.1=p.2
theorem UB {l ql:P}(hl:PK l){fi si:Nat}(h:pV l fi si ql)(hn:ql.length=l.length):iB l fi si (ql.filter λp=>decide (0<p.2)):=by
 have hk:ks ql=ks l:=by
  apply ol;intro i;unfold ks;rw[a9,a9];by_cases hi:i<l.length
  .have e1:l[i]?=Z9 l[i]:=au hi;have e2:ql[i]?=Z9 (ql[i]'(by omega)):=au (by omega);rw[e1,e2];exact congrArg Z9 (h i _ _ e1 e2).1
  .rw[l0 (by omega),l0 (by omega)]
 have sd:Sd ql:=by have h1:(ks l).Pairwise sl:=ik.mpr hl.sd;rw[<-hk]at h1;exact ik.mp h1
 have lk:∀i (p:Str×Int),l[i]?=Z9 p->∃q:Str×Int,ql[i]?=Z9 q/\look (ql.filter λp=>decide (0<p.2)) p.1=q.2:=λi p hp=>by
  have hi:=(aq.mp hp).1;have e2:ql[i]?=Z9 (ql[i]'(by omega)):=au (by omega);obtain⟨h1,h2,_⟩:=h i _ _ hp e2;refine⟨_,e2,?_⟩;unfold look;rw[FD _ _ (AL sd),<-h1,yu (AL sd) (ck e2)];generalize ql[i].2=v at h2;by_cases hv:0<v
  .rw[show(Z9 v:Option Int).filter (λv=>decide (0<v))=Z9 v by simp[hv]];rfl
  .rw[show(Z9 v:Option Int).filter (λv=>decide (0<v))=Z8 by simp;omega];show(0:Int)=v;omega
 refine⟨⟨sd.filter _,λp hp=>by simpa using(gh.mp hp).2⟩,λi p hp gQ=>?_,λi p hp gQ=>?_⟩
 .obtain⟨q,hq,e⟩:=lk i p hp;rw[e];exact(h i p q hp hq).2.2.1 gQ
 .obtain⟨q,hq,e⟩:=lk i p hp;rw[e];exact(h i p q hp hq).2.2.2 gQ
theorem UC {l:P}(hl:PK l)(hn:l.length<=60)(fi si:Nat)(c:Int):∃R,iB l fi si R/\yK [pk l,iN fi,iN si,.int c]=.ok (.fr,pk R):=by
 suffices h:∃R,iB l fi si R/\aH [] [fG] AX [Z9 (.od,pk l),Z9 (.od,iN fi),Z9 (.od,iN si),Z9 (.od,.int c),Z8,Z8,Z8,Z8]=.ok (.rt .fr (pk R)) by obtain⟨R,h1,h2⟩:=h;exact⟨R,h1,fA h2⟩
 let Q:Res Out->Prop:=λz=>∃R,iB l fi si R/\z=.ok (.rt .fr (pk R))
 show Q _;unfold AX;refine aW (gF (gE bS) rfl) ?_;refine q_nm (m:=iN) (xs:=b9 l.length) (g:=.fr) (F6 (eB (aF (aC rfl) aZ) (Lc l) rfl) (by omega)) qV (λpre ρ=>∃(ql:P) (u v w:Option GD),(ql.length=pre.length/\pV l fi si ql)/\ρ=[Z9 (.od,pk l),Z9 (.od,iN fi),Z9 (.od,iN si),Z9 (.od,.int c),Z9 (.fr,.list ((ql.filter λp=>decide (0<p.2)).map pr)),u,v,w]) ⟨[],Z8,Z8,Z8,⟨rfl,λ_ _ _ _ h=>by cases h⟩,rfl⟩ ?_ ?_
 .rintro pre k post ρ hx ⟨ql,u,v,w,⟨tZ,hr⟩,rfl⟩
  obtain⟨rfl,hk⟩:=F7 hx;rw[ci]at tZ;have ek:l[k]?=Z9 l[k]:=au hk;generalize l[k]=p at ek;have Ld:0<p.2:=hl.pos p (ck ek);obtain⟨m,⟨m0,m1⟩,hm⟩:=tY c (k:=(k:Int)) (by omega) (by omega);have UD:=mx (m*100000000000000000039) (show p.2≠0 by omega);have F8:=n7 (m*100000000000000000039) Ld
  let bL:Int->Rho:=λa=>[Z9 (.od,pk l),Z9 (.od,iN fi),Z9 (.od,iN si),Z9 (.od,.int c),Z9 (.fr,.list ((ql.filter λp=>decide (0<p.2)).map pr)),Z9 (.al,iN k),Z9 (.al,.str p.1),Z9 (.al,.int a)]
  have hc:Tt [] [fG] (.tv (.chain .LtE .Lt (.var 1) (.var 5) (.bin .Add (.var 1) (.var 2)))) (bL p.2) (decide ((fi:Int)<=(k:Int))&&decide ((k:Int)<(fi:Int)+(si:Int))):=bM (Uy (aC (d:=.int (fi:Int)) rfl) (aC (d:=.int (k:Int)) rfl) (bQ (aC (d:=.int (fi:Int)) rfl) (aC (d:=.int (si:Int)) rfl) rfl rfl).e rfl rfl).e rfl
  have fin:∀a:Int,0<=a->(fi<=k/\k<fi+si->a<p.2)->(¬(fi<=k/\k<fi+si)->a=p.2)->Nx (λρ=>∃(ql:P) (u v w:Option GD),(ql.length=(b9 k++[k]).length/\pV l fi si ql)/\ρ=[Z9 (.od,pk l),Z9 (.od,iN fi),Z9 (.od,iN si),Z9 (.od,.int c),Z9 (.fr,.list ((ql.filter λp=>decide (0<p.2)).map pr)),u,v,w]) (aH [] [fG] (.seq (.dJ (.tv (.cmp .Gt (.var 7) (.int 0))) (.seq (.mut "append" 4 (.cons (.tup (.cons (.var 6) (.cons (.var 7) .nil))) .nil)) .nil) .nil) .nil) (bL a)):=λa a0 h1 h2=>by
   have hg:Tt [] [fG] (.tv (.cmp .Gt (.var 7) (.int 0))) (bL a) (decide (0<a)):=bM (gD (aC (d:=.int a) rfl) aN.e rfl).e rfl
   have z5:pV l fi si (ql++[(p.1,a)]):=λi p' q' mT uA=>by
    by_cases hi:i<k
    .rw[fm (by omega)]at uA;exact hr i p' q' mT uA
    .have :i<ql.length+1:=by have :=(aq.mp uA).1;rw[ao]at this;exact this
     have F9:i=k:=by omega
     subst F9;rw[ek]at mT;rw[<-tZ,dz (ah _),lm]at uA;cases mT;cases uA;exact⟨rfl,a0,h1,h2⟩
   have Az:(ql++[(p.1,a)]).length=(b9 k++[k]).length:=by rw[ao,ao,tZ,ci];rfl
   by_cases ha:0<a
   .rw[vq ha]at hg;refine⟨_,cT (tT hg (λ_=>cT (Lb (x:=pr (p.1,a)) (eD (aU (v_var rfl rfl) (aU (v_var rfl rfl) bS))) rfl (by rw[ae];have:=gz (λp:Str×Int=>decide (0<p.2)) ql;omega) rfl) gG) λz=>by cases z) gG,ql++[(p.1,a)],Z9 (.al,iN k),Z9 (.al,.str p.1),Z9 (.al,.int a),⟨Az,z5⟩,?_⟩;rw[tw,show[(p.1,a)].filter (λp:Str×Int=>decide (0<p.2))=[(p.1,a)]from jq (vq ha),dh];rfl
   .rw[vr ha]at hg;refine⟨_,cT (tT hg (λz=>by cases z) λ_=>gG) gG,ql++[(p.1,a)],Z9 (.al,iN k),Z9 (.al,.str p.1),Z9 (.al,.int a),⟨Az,z5⟩,?_⟩;rw[tw,show[(p.1,a)].filter (λp:Str×Int=>decide (0<p.2))=[]from jr (by rw[decide_eq_true_iff];exact ha),e9]
  have h5:aH [] [fG] (.asg (.tp [6,7]) (.ix (.var 0) (.var 5))) ([Z9 (.od,pk l),Z9 (.od,iN fi),Z9 (.od,iN si),Z9 (.od,.int c),Z9 (.fr,.list ((ql.filter λp=>decide (0<p.2)).map pr)),Z9 (.al,iN k),v,w])=.ok (.nx (bL p.2)):=Uz (bJ (d:=pr p) (aC rfl) (aC (d:=iN k) rfl) (UA ek) rfl).1 rfl;by_cases gQ:fi<=k/\k<fi+si
  .rw[vq (show(fi:Int)<=(k:Int) by omega),vq (show(k:Int)<(fi:Int)+(si:Int) by omega)]at hc;have h6:aH [] [fG] (.dJ (.tv (.chain .LtE .Lt (.var 1) (.var 5) (.bin .Add (.var 1) (.var 2)))) (.seq (.asg (.nm 7) (.bin .Mod (.bin .Mult (.call 0 "_law_mix" (.cons (.var 3) (.cons (.var 5) .nil))) (.int 100000000000000000039)) (.var 7))) .nil) .nil) (bL p.2)=.ok (.nx (bL (m*100000000000000000039%p.2))):=tT hc (λ_=>cT (eN (bQ (bQ (cU (aF (aC rfl) (aF (aC (d:=.int (k:Int)) rfl) aZ)) rfl hm rfl).e aN.e (vN ⟨by omega,by omega⟩) rfl).e (aC (d:=.int p.2) rfl) (kL Ld) rfl)) gG) λz=>by cases z
   refine aW (Q:=Nx _) h5 (aW (Q:=Nx _) h6 (fin _ UD (λ_=>F8) λz=>absurd gQ z))
  .have hcf:(decide ((fi:Int)<=(k:Int))&&decide ((k:Int)<(fi:Int)+(si:Int)))=false:=by
    rw[<-qd];exact vr (by omega)
   rw[hcf]at hc;refine aW (Q:=Nx _) h5 (vR (Q:=Nx _) hc rfl (fin _ (by omega) (λz=>absurd z gQ) λ_=>rfl))
 .rintro ρ ⟨ql,u,v,w,⟨tZ,hr⟩,rfl⟩
  rw[ci]at tZ;exact eX (iK (vP (w:=(Z7,(ql.filter λp=>decide (0<p.2)).map pr)) (aC rfl) rfl (K9 _) (cS _))) ⟨_,UB hl hr tZ,rfl⟩
def rv:P:=[("q",2),("z",7)]
theorem Le:PK rv:=⟨bn.mpr ⟨λp hp=>by rw[cq.mp hp];show("q":Str).cps.toList<("z":Str).cps.toList;decide,ij _ _⟩,λp hp=>by
 rcases ay.mp hp with rfl|hp
 .decide
 .rw[cq.mp hp];decide⟩
abbrev bF (b:Bool)(R:P):P:=if b then R else rv
abbrev bA (b:Bool)(R:P):P:=if b then rv else R
def mU (b:Bool)(R r:P):Ru26:=(!b,bF b R,bA b R,r)
abbrev iA (b:Bool):D:=iN (if b then 0 else 1)
theorem Lf {Κ:List D}{Φ:List Fn}{ρ aL:Rho}{a c:C}{i j n:Nat}{x:D}{xs:List D}(hv:Vv Κ Φ c ρ x)(hk:Ev Κ Φ a ρ (.int j))(hr:ρ[i]?=Z9 (Z9 (.fr,.list xs)))(hj:iG xs.length (j:Int)=Z9 n)(e:(ρ.set i (Z9 (.fr,.list (xs.set n x)))).map dV=aL):aH Κ Φ (.cF i a c) ρ=.ok (.nx aL):=by rw[<-e];exact T4 hv hk hr hj
theorem yQ {ss:List Nat}{k s:Nat}(h:ss[k]?=Z9 s):jU (.list (ss.map iN)) (iN k)=.ok (iN s):=by have hk:=(aq.mp h).1;show Res.eK (cW (ss.map iN) (k:Int))=_;rw[vM _ (k:Int) (iN s) (by omega) (by rw[ae];omega),im,am,a9,h];rfl
theorem A7 (ss:List Nat):kU "len" [.list (ss.map iN)]=.ok (iN ss.length):=by show Res.ok (Z0 ((ss.map iN).length:Int))=_;rw[ae];rfl
structure Bo (l:P)(b:Bool)(ss:List Nat)(ps:List Ru26):Prop where
 len:ps.length=ss.length
 at_:∀j p s,ps[j]?=Z9 p->ss[j]?=Z9 s->∃R r,p=mU b R r/\iB l (ss.take j).sum s R/\wi r rv=Z7
theorem pW (m:Int):∃r,wi r rv=Z7/\jU (.list [pk [],pk [("q",1)],pk rv,pk [("z",7)]]) (.int (m%4))=.ok (pk r):=by
 rcases(show m%4=0\/m%4=1\/m%4=2\/m%4=3 by omega)with e|e|e|e<;>rw[e]
 .exact⟨[],rfl,rfl⟩
 .exact⟨[("q",1)],by decide,rfl⟩
 .exact⟨rv,by decide,rfl⟩
 .exact⟨[("z",7)],by decide,rfl⟩
theorem qZ (b:Bool)(R:P):∃j n,iA b=.int ((j:Nat):Int)/\iG 2 ((j:Nat):Int)=Z9 n/\([pk rv,pk rv].set n (pk R))=[pk (bF b R),pk (bA b R)]:=by
 cases b
 .exact⟨1,1,rfl,rfl,rfl⟩
 .exact⟨0,0,rfl,rfl,rfl⟩
theorem Lg {xs:List Int}{l:P}(hl:PK l)(hn:l.length<=60){ss:List Nat}(hs:ss.length<=60)(b:Bool):∃ps,Bo l b ss ps/\AZ [.list (xs.map .int),pk l,.list (ss.map iN),iA b]=.ok (.fr,.list (ps.map mr)):=by
 suffices h:∃ps,Bo l b ss ps/\aH [] [fG,mO,yK] AY [Z9 (.od,.list (xs.map .int)),Z9 (.od,pk l),Z9 (.od,.list (ss.map iN)),Z9 (.od,iA b),Z8,Z8,Z8,Z8,Z8,Z8,Z8,Z8]=.ok (.rt .fr (.list (ps.map mr))) by obtain⟨ps,h1,h2⟩:=h;exact⟨ps,h1,fA h2⟩
 let Q:Res Out->Prop:=λz=>∃ps,Bo l b ss ps/\z=.ok (.rt .fr (.list (ps.map mr)))
 show Q _;unfold AY
 let Φ:List Fn:=[fG,mO,yK]
 let dQ:List Ru26->Nat->Option GD->Option GD->Option GD->Option GD->Rho:=λps fi u v w z=>[Z9 (.od,.list (xs.map .int)),Z9 (.od,pk l),Z9 (.od,.list (ss.map iN)),Z9 (.od,iA b),Z9 (.fr,.list (ps.map mr)),Z9 (.al,iN fi),Z9 (.al,.str (sd (!b))),Z9 (.al,pk rv),u,v,w,z]
 refine aW (gF (gE bS) rfl) ?_;refine aW (eN aN) ?_;refine aW (eN (d:=.str (sd (!b))) (bJ (Ev.of (gE (aU iX (aU iX bS)))) (aC (d:=iA b) rfl) (by cases b<;>rfl) rfl)) ?_;refine aW (eN (d:=pk rv) (eD (ds:=[pr ("q",2),pr ("z",7)]) (aU (eD (aU iX (aU aN bS))) (aU (eD (aU iX (aU aN bS))) bS)))) ?_;refine q_nm (m:=iN) (xs:=b9 ss.length) (g:=.fr) (ρ1:=dQ [] 0 Z8 Z8 Z8 Z8) (F6 (eB (aF (aC rfl) aZ) (A7 ss) rfl) (by omega)) qV (λpre ρ=>∃ps u v w z,(ps.length=pre.length/\∀j p s,ps[j]?=Z9 p->ss[j]?=Z9 s->∃R r,p=mU b R r/\iB l (ss.take j).sum s R/\wi r rv=Z7)/\ρ=dQ ps (ss.take pre.length).sum u v w z) ⟨[],Z8,Z8,Z8,Z8,⟨rfl,λ_ _ _ h=>by cases h⟩,rfl⟩ ?_ ?_
 .rintro pre k post ρ hx ⟨ps,u,v,w,z,⟨nV,hr⟩,rfl⟩
  obtain⟨rfl,hk⟩:=F7 hx;rw[ci]at nV ⊢;have ek:ss[k]?=Z9 ss[k]:=au hk;generalize ss[k]=s at ek;obtain⟨c1,qO⟩:=A6 xs (k:=20+(k:Int)) (by omega) (by omega);obtain⟨c2,UE⟩:=A6 xs (k:=30+(k:Int)) (by omega) (by omega);obtain⟨m,_,hm⟩:=tY c2 (k:=4) (by decide) (by decide);obtain⟨R,hR,Ga⟩:=UC hl hn (ss.take k).sum s c1;obtain⟨r,UG,z6⟩:=pW m;obtain⟨j,n,ej,en,es⟩:=qZ b R
  let fi:=(ss.take k).sum
  have h1:aH [] Φ (.asg (.nm 9) (.call 2 "_law_bar" (.cons (.var 1) (.cons (.var 5) (.cons (.ix (.var 2) (.var 8)) (.cons (.call 1 "_law_cell_at" (.cons (.var 0) (.cons (.bin .Add (.int 20) (.var 8)) .nil))) .nil)))))) (dQ ps fi (Z9 (.al,iN k)) v w z)=.ok (.nx (dQ ps fi (Z9 (.al,iN k)) (Z9 (.al,pk R)) w z)):=eN (d:=pk R) (cU (aF (aC rfl) (aF (aC rfl) (aF (bJ (aC rfl) (aC (d:=iN k) rfl) (yQ ek) rfl).e (aF (cU (aF (aC rfl) (aF (bQ aN.e (aC (d:=.int (k:Int)) rfl) rfl rfl).e aZ)) rfl qO rfl).e aZ)))) rfl Ga (cS _));have h2:aH [] Φ (.asg (.nm 10) (.ix (.lst (.cons (.tup .nil) (.cons (.tup (.cons (.tup (.cons (.str "q") (.cons (.int 1) .nil))) .nil)) (.cons (.var 7) (.cons (.tup (.cons (.tup (.cons (.str "z") (.cons (.int 7) .nil))) .nil)) .nil))))) (.bin .Mod (.call 0 "_law_mix" (.cons (.call 1 "_law_cell_at" (.cons (.var 0) (.cons (.bin .Add (.int 30) (.var 8)) .nil))) (.cons (.int 4) .nil))) (.int 4)))) (dQ ps fi (Z9 (.al,iN k)) (Z9 (.al,pk R)) w z)=.ok (.nx (dQ ps fi (Z9 (.al,iN k)) (Z9 (.al,pk R)) (Z9 (.al,pk r)) z)):=eN (d:=pk r) (bJ (x:=.list [pk [],pk [("q",1)],pk rv,pk [("z",7)]]) (Ev.of (gE (aU (eD bS) (aU (eD (aU (eD (aU iX (aU aN bS))) bS)) (aU (v_var rfl rfl) (aU (eD (aU (eD (aU iX (aU aN bS))) bS)) bS)))))) (bQ (cU (aF (cU (aF (aC rfl) (aF (bQ aN.e (aC (d:=.int (k:Int)) rfl) rfl rfl).e aZ)) rfl UE rfl).e (aF aN.e aZ)) rfl hm rfl).e aN.e (kL (by decide)) rfl).e z6 (cS _));have h3:aH [] Φ (.asg (.nm 11) (.lst (.cons (.var 7) (.cons (.var 7) .nil)))) (dQ ps fi (Z9 (.al,iN k)) (Z9 (.al,pk R)) (Z9 (.al,pk r)) z)=.ok (.nx (dQ ps fi (Z9 (.al,iN k)) (Z9 (.al,pk R)) (Z9 (.al,pk r)) (Z9 (.fr,.list [pk rv,pk rv])))):=gF (gE (aU (v_var rfl rfl) (aU (v_var rfl rfl) bS))) rfl;have h4:aH [] Φ (.cF 11 (.var 3) (.var 9)) (dQ ps fi (Z9 (.al,iN k)) (Z9 (.al,pk R)) (Z9 (.al,pk r)) (Z9 (.fr,.list [pk rv,pk rv])))=.ok (.nx (dQ ps fi (Z9 (.al,iN k)) (Z9 (.al,pk R)) (Z9 (.al,pk r)) (Z9 (.fr,.list [pk (bF b R),pk (bA b R)])))):=Lf (x:=pk R) (v_var rfl (cS R)) (aC (d:=.int (j:Int)) (by rw[<-ej];rfl)) rfl en (by rw[es];show[Z9 (.od,.list (xs.map .int)),Z9 (.od,pk l),Z9 (.od,.list (ss.map iN)),Z9 (.od,iA b),Z9 (.fr,.list (ps.map mr)),Z9 (.al,iN fi),Z9 (.al,.str (sd (!b))),Z9 (.al,pk rv),Z9 (.al,iN k),dV (Z9 (.al,pk R)),dV (Z9 (.al,pk r)),Z9 (.fr,.list [pk (bF b R),pk (bA b R)])]=_;rw[yP (cS R),yP (cS r)]);have h5:aH [] Φ (.mut "append" 4 (.cons (.tup (.cons (.tup (.cons (.ix (.var 11) (.int 0)) (.cons (.ix (.var 11) (.int 1)) .nil))) (.cons (.var 6) (.cons (.var 10) .nil)))) .nil)) (dQ ps fi (Z9 (.al,iN k)) (Z9 (.al,pk R)) (Z9 (.al,pk r)) (Z9 (.fr,.list [pk (bF b R),pk (bA b R)])))=.ok (.nx (dQ (ps++[mU b R r]) fi (Z9 (.al,iN k)) (Z9 (.al,pk R)) (Z9 (.al,pk r)) (Z9 (.fr,.list [pk (bF b R),pk (bA b R)])))):=Lb (x:=mr (mU b R r)) (eD (ds:=[gH (bF b R) (bA b R),.str (sd (!b)),pk r]) (aU (eD (ds:=[pk (bF b R),pk (bA b R)]) (aU (bJ (aC rfl) aN.e rfl (cS _)) (aU (bJ (aC rfl) aN.e rfl (cS _)) bS))) (aU (v_var rfl rfl) (aU (v_var rfl (cS r)) bS)))) rfl (by rw[ae];omega) (by show[Z9 (.od,.list (xs.map .int)),Z9 (.od,pk l),Z9 (.od,.list (ss.map iN)),Z9 (.od,iA b),Z9 (.fr,.list (ps.map mr++[mr (mU b R r)])),Z9 (.al,iN fi),Z9 (.al,.str (sd (!b))),Z9 (.al,pk rv),Z9 (.al,iN k),dV (Z9 (.al,pk R)),dV (Z9 (.al,pk r)),Z9 (.fr,.list [pk (bF b R),pk (bA b R)])]=_;rw[yP (cS R),yP (cS r),show ps.map mr++[mr (mU b R r)]=(ps++[mU b R r]).map mr by rw[dh];rfl]);have h6:aH [] Φ (.asg (.nm 5) (.bin .Add (.var 5) (.ix (.var 2) (.var 8)))) (dQ (ps++[mU b R r]) fi (Z9 (.al,iN k)) (Z9 (.al,pk R)) (Z9 (.al,pk r)) (Z9 (.fr,.list [pk (bF b R),pk (bA b R)])))=.ok (.nx (dQ (ps++[mU b R r]) (ss.take (k+1)).sum (Z9 (.al,iN k)) (Z9 (.al,pk R)) (Z9 (.al,pk r)) (Z9 (.fr,.list [pk (bF b R),pk (bA b R)])))):=eN (d:=iN (ss.take (k+1)).sum) (bQ (aC (d:=.int (fi:Int)) rfl) (bJ (d:=.int (s:Int)) (aC rfl) (aC (d:=iN k) rfl) (yQ ek) rfl).e (by show Res.ok (Z0 ((fi:Int)+(s:Int)))=.ok (.int (((ss.take (k+1)).sum:Nat):Int));rw[oh,ek,my];show _=Res.ok (Z0 ((((ss.take k).sum+ [s].sum:Nat)):Int));rw[show[s].sum=s by simp,mz]) rfl);refine⟨_,cT h1 (cT h2 (cT h3 (cT h4 (cT h5 (cT h6 gG))))),ps++[mU b R r],Z9 (.al,iN k),Z9 (.al,pk R),Z9 (.al,pk r),Z9 (.fr,.list [pk (bF b R),pk (bA b R)]),⟨by rw[ao,ao,nV,ci];rfl,λi p s' hp vZ=>?_⟩,by rw[ao,ci];rfl⟩;by_cases hi:i<k
  .rw[fm (by omega)]at hp;exact hr i p s' hp vZ
  .have :i<ps.length+1:=by have :=(aq.mp hp).1;rw[ao]at this;exact this
   have F9:i=ps.length:=by omega
   subst F9;rw[dz (ah _),lm]at hp;cases hp;rw[nV,ek]at vZ;cases vZ;exact⟨R,r,rfl,by rw[nV];exact hR,UG⟩
 .rintro ρ ⟨ps,u,v,w,z,⟨nV,hr⟩,rfl⟩
  rw[ci]at nV;exact eX (z7h rfl) ⟨ps,⟨nV,hr⟩,rfl⟩
theorem jL (b:Bool)(l:P):own b (bF b l) (bA b l)=l:=by cases b<;>rfl
theorem UH (b:Bool)(l:P):own (!b) (bF b l) (bA b l)=rv:=by cases b<;>rfl
theorem uB {b:Bool}{l:P}(h:PK l):PK (bF b l):=by cases b;exact Le;exact h
theorem uC {b:Bool}{l:P}(h:PK l):PK (bA b l):=by cases b;exact h;exact Le
theorem Lh {b:Bool}{R r:P}(h:PK R):(rB b (mU b R r)).1=R:=by show(toS (own b (bF b R) (bA b R))).1=R;rw[jL];exact K6 h
def pX (l:P)(fi s:Nat):List Str:=((ks l).drop fi).take s
theorem A8 {l:P}{fi s:Nat}{n:Str}:n∈pX l fi s↔∃(i:Nat) (p:Str×Int),l[i]?=Z9 p/\p.1=n/\fi<=i/\i<fi+s:=by
 unfold pX;rw[c8];constructor
 .rintro⟨j,hj⟩
  rw[g9]at hj;split at hj
  .rename_i h;rw[kx]at hj;unfold ks at hj;rw[a9]at hj;obtain⟨p,hp,e⟩:=dq.mp hj;exact⟨fi+j,p,hp,e,by omega,by omega⟩
  .cases hj
 .rintro⟨i,p,hp,e,h1,h2⟩
  refine⟨i-fi,?_⟩;rw[g9,vh (by omega),kx,show fi+(i-fi)=i by omega];unfold ks;rw[a9,hp,<-e];rfl
theorem Li {l:P}{n:Str}(h:n∈ks l):∃(i:Nat) (p:Str×Int),l[i]?=Z9 p/\p.1=n:=by obtain⟨p,hp,e⟩:=bx.mp h;obtain⟨i,hi⟩:=c8.mp hp;exact⟨i,p,hi,e⟩
theorem UI {l:P}(hl:PK l){i j:Nat}{p q:Str×Int}(hi:l[i]?=Z9 p)(hj:l[j]?=Z9 q)(e:p.1=q.1):i=j:=by
 have nd:=hl.nd;have h1:(ks l)[i]?=Z9 p.1:=by unfold ks;rw[a9,hi];rfl
 have h2:(ks l)[j]?=Z9 p.1:=by unfold ks;rw[a9,hj,e];rfl
 have a1:=(aq.mp h1).1;exact(List.getElem?_inj a1 nd).mp (h1.trans h2.symm)
theorem yR {l R:P}(hl:PK l){fi s:Nat}(h:iB l fi s R)(n:Str):n∈ov l R↔n∈pX l fi s:=by
 rw[FR hl h.pk,A8];constructor
 .intro eF;have hR:=h.pk.cJ n;obtain⟨i,p,hp,rfl⟩:=Li (hl.key.mpr (show 0<look l n by omega));refine⟨i,p,hp,rfl,Classical.byContradiction λz=>?_⟩;rw[h.out i p hp z,hl.aR (ck hp)]at eF;exact oz _ eF
 .rintro⟨i,p,hp,rfl,gQ⟩
  rw[hl.aR (ck hp)];exact h.ins i p hp gQ
theorem UJ {l R:P}(hl:PK l){fi s:Nat}(h:iB l fi s R):(ov l R).Perm (pX l fi s):=(n6 (Kz hl) ((hl.nd.sublist (List.drop_sublist _ _)).sublist (t7 _ _))).mpr (yR hl h)
theorem UK {l R:P}(hl:PK l){fi s:Nat}(h:iB l fi s R)(hn:fi+s<=l.length):(ov l R).length=s:=by rw[(UJ hl h).length_eq];unfold pX ks;rw[df,g7,ae];exact jb (by omega)
theorem A9 (ss:List Nat){i j:Nat}(h:i<=j):(ss.take i).sum<=(ss.take j).sum:=by
 have e:ss.take j=ss.take i++(ss.take j).drop i:=by
  conv=>lhs;rw[<-d6 i (ss.take j)]
  rw[rc,jb h]
 rw[e,my];omega
theorem Gb {ss:List Nat}{j s:Nat}(h:ss[j]?=Z9 s):(ss.take (j+1)).sum=(ss.take j).sum+s:=by rw[oh,h,my];simp
section
variable {l:P}(hl:PK l){b:Bool}{ss:List Nat}{ps:List Ru26}
include hl in
theorem Bo.mV (h:Bo l b ss ps){j:Nat}{p:Ru26}{s:Nat}(hp:ps[j]?=Z9 p)(hs:ss[j]?=Z9 s):iB l (ss.take j).sum s (rB b p).1/\Br b (bF b l) (bA b l) p:=by
 obtain⟨R,r,rfl,hR,hw⟩:=h.at_ j p s hp hs;refine⟨by rw[Lh hR.pk];exact hR,⟨?_,uB hR.pk,uC hR.pk,?_⟩⟩
 .show(!b)≠b;cases b<;>decide
 .show wi r (own (!b) (bF b l) (bA b l))=Z7;rw[UH];exact hw
theorem at_of {α:Type}{ps pre post:List α}{p:α}(h:ps=pre++p::post):ps[pre.length]?=Z9 p:=by rw[h,dz (ah _),lm];rfl
theorem Bo.ex (h:Bo l b ss ps){j:Nat}{p:Ru26}(hp:ps[j]?=Z9 p):∃s,ss[j]?=Z9 s:=⟨_,au (by rw[<-h.len];exact(aq.mp hp).1)⟩
include hl in
theorem Bo.Ge (h:Bo l b ss ps){pre post:List Ru26}{p:Ru26}(he:ps=pre++p::post):A4 l (pre.map (rB b)) (rB b p):=by
 obtain⟨s,hs⟩:=h.ex (at_of he);have hb:=(h.mV hl (at_of he) hs).1;refine⟨λn hn=>?_,λR' UL n h1 h2=>?_⟩
 .by_cases hk:n∈ks l
  .obtain⟨i,p',mT,rfl⟩:=Li hk;refine Int.le_of_eq ?_;have:¬((ss.take pre.length).sum<=i/\i<(ss.take pre.length).sum+s):=λz=>hn ((yR hl hb _).mpr (A8.mpr ⟨i,p',mT,rfl,z⟩));rw[hl.aR (ck mT)];exact(hb.out i p' mT this).symm
  .have :look l n=0:=by unfold look;rw[tO hk];rfl
   rw[this];exact tX _ n
 .obtain⟨p',mT,rfl⟩:=bx.mp UL;obtain⟨j,hj⟩:=c8.mp mT;have UM:=(aq.mp hj).1;have vB:ps[j]?=Z9 p':=by rw[he,fm UM];exact hj
  obtain⟨s',vZ⟩:=h.ex vB;have uW:=(h.mV hl vB vZ).1;obtain⟨i,q,hq,e,a1,a2⟩:=A8.mp ((yR hl uW n).mp h1);obtain⟨i',q',uA,e',c1,c2⟩:=A8.mp ((yR hl hb n).mp h2);have:=UI hl hq uA (e.trans e'.symm);subst this;have:=A9 ss (show j+1<=pre.length by omega);rw[Gb vZ]at this;omega
include hl in
theorem Bo.A' (h:Bo l b ss ps)(hn:ss.sum<=l.length):∀m,sz l ((ps.take m).map (rB b))=pd (ss.take m):=λm=>by
 unfold sz pd
 congr 1
 apply ol;intro j;rw[a9,a9,g9,g9];split
 .cases hp:ps[j]? with
  |none=>
   have:ss.length<=j:=by rw[<-h.len];exact gu.mp hp
   rw[l0 this];rfl
  |some p=>obtain⟨s,hs⟩:=h.ex hp;rw[hs];refine congrArg Option.some (UK hl (h.mV hl hp hs).1 ?_);rw[<-Gb hs];have:=A9 ss (show j+1<=ss.length by have:=(aq.mp hs).1;omega);rw[jo]at this;omega
 .rfl
end
theorem Lj:∀l:List PS,ZV (l.map pkS) (l.map pkS)=Z7
 | []=>rfl
 |x::l=>by show(bT (pkS x) (pkS x)&&ZV (l.map pkS) (l.map pkS))=Z7;rw[Lj l,KD,vq rfl];rfl
theorem UN (l:List PS):eE 39 (l.map pkS)=true:=uO.mpr λz hz=>by obtain⟨p,_,rfl⟩:=bx.mp hz;exact EZ 37 _
theorem UO (l:List PS):cmpD .NotEq (.list (l.map pkS)) (.list (l.map pkS))=.ok false:=by show(if(eE 39 (l.map pkS)&&eE 39 (l.map pkS))=Z7 then Res.ok (!ZV (l.map pkS) (l.map pkS))else .no)=_;rw[UN,Lj];rfl
theorem UP {α:Type}(xs:List α){i j:Nat}(h1:i<=j)(h2:j<=xs.length):cut xs (Z9 (i:Int)) (Z9 (j:Int))=(xs.drop i).take (j-i):=by unfold cut;rw[Kt (tx _),Kt (tx _),im,im,jb h2,jb (cc h1 h2)]
theorem Gf (ws:List Str)(i j:Option Int):oM (.list (ws.map .str)) i j=.ok (.list ((cut ws i j).map .str)):=by show Res.ok (Z1 (cut (ws.map Z2) i j))=_;rw[Kh]
theorem UQ {l:P}{m:P}(hm:m.length<=60){ss:List Nat}(hs:ss.sum<=l.length)(h1:∀j s,ss[j]?=Z9 s->(m.filter λp=>decide (p.1∈pX l (ss.take j).sum s)).length=1)(h2:m.length=ss.length):A0 [pk m,pk l,.list (ss.map iN)]=.ok (.fr,.bool Z7):=by
 refine fA ?_
 let Q:Res Out->Prop:=λz=>z=.ok (.rt .fr (.bool Z7))
 show Q _;unfold Fy
 let dQ:Nat->Option GD->Rho:=λfi u=>[Z9 (.od,pk m),Z9 (.od,pk l),Z9 (.od,.list (ss.map iN)),Z9 (.fr,.list ((ks l).map .str)),Z9 (.al,iN fi),u]
 have hw:=z2e (Κ:=[]) (Φ:=[]) (ρ:=[Z9 (.od,pk m),Z9 (.od,pk l),Z9 (.od,.list (ss.map iN)),Z8,Z8,Z8]) (nt:=1) (js:=[]) (N':=["_law_pair"]) (tg:=.nm 0) (it:=.tv (.var 1)) (cond:=.nil) (elt:=.ix (.var 0) (.int 0)) (m:=pr) (xs:=l) (λ_=>Z7) (λp=>.str p.1) (dE (v_var rfl (cS l)).1 rfl) rfl (λp=>[Z9 (.al,pr p)]) (λp _=>rfl) (λp _=>Fq) λp _ _=>bJ (aC rfl) aN.e rfl rfl;rw[ji.mpr λ_ _=>rfl,show(l.map λp=>Z2 p.1)=(ks l).map .str by unfold ks;rw[jx];rfl]at hw;refine aW (gF hw (JY _)) ?_;refine aW (eN (d:=iN 0) aN) ?_;refine q_nm (m:=iN) (xs:=ss) (g:=.od) (ρ1:=dQ 0 Z8) (mJ rfl rfl rfl) qV (λpre ρ=>∃u,ρ=dQ (ss.take pre.length).sum u) ⟨Z8,rfl⟩ ?_ ?_
 .rintro pre s post ρ hx ⟨u,rfl⟩
  have zR:=at_of hx;have hj:=Gb zR;have hle:=A9 ss (show pre.length+1<=ss.length by have:=(aq.mp zR).1;omega);rw[jo]at hle;have VC:(ks l).length=l.length:=ae ..;have hlen:=h1 _ _ zR;generalize VD:(ss.take pre.length).sum=fi at hj hlen;have hc:=z2e (Κ:=[]) (Φ:=[]) (ρ:=dQ fi (Z9 (.al,iN s))) (nt:=1) (js:=[3,4,5]) (N':=["_law_pair","_law_words_here","_law_first","_law_size"]) (tg:=.nm 0) (it:=.tv (.var 0)) (cond:=.tv (.cmp .In (.ix (.var 0) (.int 0)) (.sl (.var 1) (.tv (.var 2)) (.tv (.bin .Add (.var 2) (.var 3)))))) (elt:=.var 0) (m:=pr) (xs:=m) (λp=>decide (p.1∈pX l fi s)) pr (dE (v_var rfl (cS m)).1 rfl) rfl (λp=>[Z9 (.al,pr p),Z9 (.al,.list ((ks l).map .str)),Z9 (.al,iN fi),Z9 (.al,iN s)]) (λp _=>rfl) (λp _=>bM (gD (bJ (aC rfl) aN.e rfl rfl).e (mQ (aC rfl) (vO (aC (d:=.int (fi:Int)) rfl)) (vO (bQ (d:=.int ((fi+s:Nat):Int)) (aC (d:=.int (fi:Int)) rfl) (aC (d:=.int (s:Int)) rfl) (by rw[mz];rfl) rfl).e) ((Gf _ _ _).trans (by rw[UP _ (by omega) (by omega),show fi+s-fi=s by omega];rfl))) (T8 _ _)).e rfl) λp _ _=>v_var rfl rfl;refine vR (Q:=Nx _) (k:=Z6) (bM (gD (k:=Z6) (eB (d:=.int (((m.filter λp=>decide (p.1∈pX l fi s)).map pr).length:Int)) (aF (Ev.of hc) aZ) rfl rfl).e aN.e (by rw[ae,hlen];rfl)).e rfl) rfl ?_;refine⟨_,cT (eN (d:=iN (ss.take (pre.length+1)).sum) (bQ (aC (d:=.int (fi:Int)) rfl) (aC (d:=.int (s:Int)) rfl) (by rw[hj];show _=Res.ok (Z0 ((fi+s:Nat):Int));rw[mz];rfl) rfl)) gG,Z9 (.al,iN s),by rw[ao];rfl⟩
 .rintro ρ ⟨u,rfl⟩
  exact eX (iK (gD (k:=Z7) (eB (d:=iN m.length) (aF (aC rfl) aZ) (Lc m) rfl).e (eB (d:=iN ss.length) (aF (aC rfl) aZ) (A7 ss) rfl).e (by show Res.ok (bT (.int _) (.int _))=_;rw[yy,h2,vq rfl]))) rfl
theorem UR {l:P}{M:List PS}{ss:List Nat}(hs:ss.sum<=l.length)(hM:M.length<=127)(hl:M.length=pd ss)(nd:M.Nodup)(ch:pU M)(ne:M.length<2\/∀x∈M,x.1≠[])(h0:∀s∈ss,0<s/\s<=100)(h1:∀m∈M,∀j s,ss[j]?=Z9 s->(m.1.filter λp=>decide (p.1∈pX l (ss.take j).sum s)).length=1)(h2:∀m∈M,m.1.length=ss.length)(hn:ss.length<=60):yM [.list (M.map pkS),pk l,.list (ss.map iN)]=.ok (.fr,.bool Z7):=by
 refine fA ?_
 let Q:Res Out->Prop:=λz=>z=.ok (.rt .fr (.bool Z7))
 show Q _;unfold Fz
 let Φ:List Fn:=[A0,pS]
 have so:=K0 hM nd ne;rw[KW M ch]at so;refine vR (tS (qH (bM (Tz (x:=.list (M.map pkS)) (aC rfl)).e rfl)) λ_=>tS (bM (gD (k:=Z6) (eB (d:=.int ((M.map pkS).length:Int)) (aF (aC rfl) aZ) rfl rfl).e (cU (aF (aC rfl) aZ) rfl (F3 h0) rfl).e (by show Res.ok (!bT (.int _) (.int _))=_;rw[yy,ae,hl,vq rfl];rfl)).e rfl) λ_=>bM (gD (aC rfl) (Ev.of (vQ (w:=(Z7,M.map pkS)) (aC rfl) rfl so (mS _))) (UO M)).e rfl) rfl ?_;refine q_nm (m:=pkS) (xs:=M) (g:=.od) (ρ1:=[Z9 (.od,.list (M.map pkS)),Z9 (.od,pk l),Z9 (.od,.list (ss.map iN)),Z8]) (mJ rfl rfl rfl) jA (λpre ρ=>∃u,ρ=[Z9 (.od,.list (M.map pkS)),Z9 (.od,pk l),Z9 (.od,.list (ss.map iN)),u]) ⟨Z8,rfl⟩ ?_ ?_
 .rintro pre m post ρ hx ⟨u,rfl⟩
  have hm:m∈M:=by rw[hx];exact ax _ (.head _)
  have hp:=UQ (l:=l) (m:=m.1) (by rw[h2 m hm];exact hn) hs (h1 m hm) (h2 m hm);refine vR (Q:=Nx _) (k:=!true) (qH (bM (cU (aF (aC (d:=pk m.1) rfl) (aF (aC rfl) (aF (aC rfl) aZ))) rfl hp rfl).e rfl)) rfl ⟨_,gG,Z9 (.al,pkS m),rfl⟩
 .rintro ρ ⟨u,rfl⟩
  exact eX (iK Fl) rfl
theorem US {x y z:D}(h:mM [x,y,z]=.exc (.str "TooMuch")):yL [x,y,z]=.ok (.fr,.bool Z7):=by show(if excOf (mM [x,y,z])=Z9 "TooMuch"then Res.ok (G.fr,ZW Z7)else .no)=_;rw[h];rfl
theorem Gg {ss:List Nat}(h:∀s∈ss,0<s){i j:Nat}(cM:i<=j):pd (ss.take i)<=pd (ss.take j):=by
 have e:ss.take j=ss.take i++(ss.take j).drop i:=by
  conv=>lhs;rw[<-d6 i (ss.take j)]
  rw[rc,jb cM]
 rw[e];exact Up λs hs=>h s (je (by rw[<-e]at hs;exact hs))
theorem pre_take {α:Type}{ps pre post:List α}(h:ps=pre++post):pre=ps.take pre.length:=by rw[h,qe];rfl
structure Go (l:P)(ss:List Nat):Prop where
 pos:∀s∈ss,0<s/\s<=100
 len:ss.length<=20
 sum:ss.sum<=l.length
 Gh:l.length<=30
 pd:pd ss<=900
section
variable {l:P}(hl:PK l){b:Bool}{ss:List Nat}{ps:List Ru26}
theorem Bo.bk (h:Bo l b ss ps)(g:Go l ss):Bk b (bF b l) (bA b l) (uB hl) (uC hl) ps where
 br:=λp hp=>by obtain⟨j,hj⟩:=c8.mp hp;obtain⟨s,hs⟩:=h.ex hj;exact(h.mV hl hj hs).2
 bar:=λpre p post he=>by rw[jL];exact h.Ge hl he
 n:=by rw[h.len];exact g.len
 g:=λpre p post he=>by
  rw[jL];have e:pre++[p]=ps.take (pre.length+1):=by have:=pre_take (ps:=ps) (pre:=pre++[p]) (post:=post) (by rw[he];simp);rw[ao]at this;exact this
  rw[e,h.A' hl g.sum];have:=Gg (ss:=ss) (λs hs=>(g.pos s hs).1) (i:=pre.length+1) (j:=ss.length) (by have:=congrArg kz he;rw[ao,bo,h.len]at this;omega);rw[jo]at this;have:=g.pd;omega
theorem Bk.take {b:Bool}{f a:P}{hf:PK f}{ha:PK a}{ps qs:List Ru26}(h:Bk b f a hf ha (ps++qs)):Bk b f a hf ha ps where
 br:=λp hp=>h.br p (fh _ hp)
 bar:=λpre p post he=>h.bar pre p (post++qs) (by rw[he];simp)
 n:=by have:=h.n;rw[ao]at this;omega
 g:=λpre p post he=>h.g pre p (post++qs) (by rw[he];simp)
theorem Bo.Lk (h:Bo l b ss ps)(hl:PK l)(g:Go l ss){m:Nat}(hm:m<=ss.length)(hp:Mk.pd (ss.take m)<=100):∀pre post,ps.take m=pre++post->sz (own b (bF b l) (bA b l)) (pre.map (rB b))<=100:=λpre post he=>by
 rw[jL];have e1:ps=pre++(post++ps.drop m):=by rw[<-c9,<-he,d6]
 have oU:pre.length<=m:=by have:=congrArg kz he;rw[ao,df]at this;omega
 rw[pre_take e1,h.A' hl g.sum];exact cc (Gg (λs hs=>(g.pos s hs).1) oU) hp
theorem UT (m:P){G G':List Str}(h:∀n,n∈G↔n∈G'):(m.filter λp=>decide (p.1∈G')).length=((ks m).filter λn=>decide (n∈G)).length:=by
 unfold ks;rw[List.filter_map,ae]
 congr 1
 exact List.filter_congr λp _=>decide_eq_decide.mpr (h p.1).symm
include hl in
theorem UU (h:Bo l b ss ps)(g:Go l ss){m:Nat}(hm:m<=ss.length)(hp:Mk.pd (ss.take m)<=100):∃M:List PS,mM [.list ((ps.take m).map mr),gH (bF b l) (bA b l),.str (sd b)]=.ok (.fr,.list (M.map pkS))/\yM [.list (M.map pkS),pk l,.list ((ss.take m).map iN)]=.ok (.fr,.bool Z7):=by
 have hb:=h.bk hl g;rw[<-d6 m ps]at hb;obtain⟨M,⟨hM,ch⟩,e⟩:=zcz (uB hl) (uC hl) (by rw[jL];exact g.Gh) hb.take (h.Lk hl g hm hp);rw[jL]at hM;have hlen:=hM.len;rw[h.A' hl g.sum]at hlen;have UW:(ps.take m).length=m:=by rw[df,h.len];omega
 have Ll:∀x∈M,x.1.length=m:=λx hx=>by have:=hM.cn x hx;rw[ae,UW]at this;unfold ks at this;rw[ae]at this;exact this
 refine⟨M,e,UR ?_ (by omega) hlen hM.nd ch ?_ (λs hs=>g.pos s (je hs)) (λx hx j s hj=>?_) (λx hx=>?_) ?_⟩
 .have :=A9 ss hm;rw[jo]at this;have:=g.sum;omega
 .cases m with
  |zero=>exact .inl (by rw[hlen];show 1<2;decide)
  |succ m=>refine .inr λx hx e=>?_;have:=Ll x hx;rw[e]at this;cases this
 .have Lm:j<m:=by have :=(aq.mp hj).1;rw[df]at this;omega
  have hs:ss[j]?=Z9 s:=by rw[g9,vh Lm]at hj;exact hj
  have Gi:ps[j]?=Z9 (ps[j]'(by rw[h.len];omega)):=au _;generalize ps[j]'(by rw[h.len];omega)=p at Gi;have gQ:rB b p∈(ps.take m).map (rB b):=bx.mpr ⟨p,c8.mpr ⟨j,by rw[g9,vh Lm];exact Gi⟩,rfl⟩;rw[rc,jb (by omega)];rw[UT x.1 (yR hl (h.mV hl Gi hs).1)];exact hM.ct x hx _ gQ
 .rw[Ll x hx,df];omega
 .rw[df];have:=g.len;omega
include hl in
theorem UX {s:Nat}(h:Bo l b (ss++[s]) ps)(g:Go l (ss++[s]))(h1:Mk.pd ss<=100)(h2:100<Mk.pd (ss++[s]))(post:List Ru26):mM [.list ((ps++post).map mr),gH (bF b l) (bA b l),.str (sd b)]=.exc (.str "TooMuch"):=by
 have hlen:=h.len;rw[ao]at hlen;have hlen:ps.length=ss.length+1:=hlen;have hb:=h.bk hl g
 have e:ps=ps.take ss.length++[ps[ss.length]'(by omega)]:=by
  conv=>lhs;rw[<-d6 ss.length ps]
  congr 1
  rw[gb (by omega),li (by omega)]
 have hs:=h.Lk hl g (m:=ss.length) (by rw[ao];omega) (by rw[qe];exact h1;rfl);have hz:=h.A' hl g.sum (ss.length+1);rw[fu (by omega),fu (by rw[ao];exact ah _)]at hz;generalize ps[ss.length]'(by omega)=p at e;generalize ps.take ss.length=qs at e hs;subst e;rw[c9];exact ziy (uB hl) (uC hl) (by rw[jL];exact g.Gh) hb hs (by rw[jL,hz];exact h2)
include hl in
theorem HF (h:Bo l b ss ps)(g:Go l ss)(hn:ss.length<=19):mM [.list (((!b,bF b l,bA b l,[])::ps).map mr),gH (bF b l) (bA b l),.str (sd b)]=.ok (.fr,.list []):=by
 have hb:=h.bk hl g;have e0:rB b (!b,bF b l,bA b l,[])=⟨l,hl⟩:=Subtype.ext (Lh (r:=[]) hl);have g0:gp l (rB b (!b,bF b l,bA b l,[]))=[]:=by rw[e0];exact List.eq_nil_iff_forall_not_mem.mpr λn hn=>by have:=(FR hl hl n).mp hn;omega
 have z:∀qs:List Ru26,sz l (((!b,bF b l,bA b l,[])::qs).map (rB b))=0:=λqs=>by
  show List.foldl (· * ·) (1*(gp l (rB b (!b,bF b l,bA b l,[]))).length) ((qs.map (rB b)).map λR=>(gp l R).length)=0;rw[g0];generalize (qs.map (rB b)).map (λR=>(gp l R).length)=xs;show List.foldl (· * ·) 0 xs=0
  induction xs with
  |nil=>rfl
  |cons x xs ih=>rw[kt,Nat.zero_mul];exact ih
 have UY:Bk b (bF b l) (bA b l) (uB hl) (uC hl) ((!b,bF b l,bA b l,[])::ps):=by
  refine⟨λp hp=>?_,λpre p post he=>?_,?_,λpre p post he=>?_⟩
  .rcases ay.mp hp with rfl|hp
   .exact⟨by show(!b)≠b;cases b<;>decide,uB hl,uC hl,rfl⟩
   .exact hb.br p hp
  .cases pre with
   |nil=>cases he;rw[jL];exact⟨λn _=>by rw[e0];exact uu _,λ_ hR=>by cases hR⟩
   |cons q pre=>
    cases he;have:=hb.bar pre p post rfl;rw[jL]at this ⊢;refine⟨this.eq,λR' hR n h1=>?_⟩;rcases ay.mp hR with rfl|hR
    .rw[g0]at h1;cases h1
    .exact this.dj R' hR n h1
  .rw[bo,h.len];omega
  .rw[jL];cases pre with
   |nil=>cases he;show 1*(gp l (rB b (!b,bF b l,bA b l,[]))).length<=900;rw[g0];decide
   |cons q pre=>cases he;show sz l (((!b,bF b l,bA b l,[])::(pre++[p])).map (rB b))<=900;rw[z];decide
 obtain⟨M,⟨hM,_⟩,e⟩:=zcz (uB hl) (uC hl) (by rw[jL];exact g.Gh) UY (λpre post he=>by
  rw[jL];cases pre with
  |nil=>show 1<=100;decide
  |cons q pre=>cases he;rw[z];decide)
 have hlen:=hM.len;rw[jL,z]at hlen;rw[mj hlen]at e;exact e
end
theorem Ln:∀ss:List Nat,dY (ss.map iN)=Z9 (ss.sum:Int)
 | []=>rfl
 |s::ss=>by show dY (.int (s:Int)::ss.map iN)=_;rw[dY,Ln ss,sv,mz];rfl
theorem Lo:∀{ss:List Nat},(∀s∈ss,s<=3)->ss.sum<=ss.length*3
 | [],_=>ah _
 |s::ss,h=>by have:=h s (.head _);have:=Lo (ss:=ss) λt ht=>h t (.tail _ ht);rw[sv,bo];omega
theorem UZ {α:Type}(xs:List α)(h:n<=xs.length):cut xs Z8 (Z9 (n:Int))=xs.take n:=by
 show(xs.drop 0).take (min (n:Int).toNat xs.length-0)=_
 congr 1;omega
theorem uD {β:Type}(m:β->D)(ps:List β){n:Nat}(h:n<=ps.length):oM (.list (ps.map m)) Z8 (Z9 (n:Int))=.ok (.list ((ps.take n).map m)):=by show Res.ok (Z1 (cut (ps.map m) Z8 (Z9 (n:Int))))=_;rw[UZ _ (by rw[ae];exact h),List.map_take]
theorem Lp (ss:List Nat):imms (ss.map iN)=true:=FN qV ss
theorem Ba (ps:List Ru26):imms (ps.map mr)=true:=FN vY ps
theorem U0 {xs:List Int}(hl:xs.length<=63):yN [.list (xs.map .int)]=.ok (.fr,.bool Z7):=by
 unfold yN;refine fA ?_
 let Q:Res Out->Prop:=λz=>z=.ok (.rt .fr (.bool Z7))
 show Q _;unfold FA
 let Φ:List Fn:=[mM,yL,AZ,yM,AW,AU,fG,pS,AS]
 obtain⟨ss,v5,e1⟩:=Uq hl;have yS:∀s∈ss,0<s/\s<=100:=λs hs=>by rcases v5.v s hs with e|e<;>omega
 have U1:ss.sum<=12:=by
  have:=Lo (ss:=ss) λs hs=>by rcases v5.v s hs with e|e<;>omega
  have:=v5.len;omega
 have hlo:=v5.lo;have VE:=v5.hi;have hlen:=v5.len;generalize qY:100/pd ss=mo;have d1:pd ss*mo<=100:=by rw[<-qY];exact Nat.mul_div_le 100 _
 have d2:100<pd ss*(mo+1):=by rw[<-qY];exact Nat.lt_mul_div_succ 100 (by omega)
 have d3:pd ss*(mo+1)<=127:=by rw[Nat.mul_add];omega
 have d4:0<mo/\mo<=10:=by rw[<-qY];exact⟨Nat.div_pos (by omega) (by omega),cc (Nat.div_le_div_left hlo (by decide)) (by decide)⟩
 obtain⟨c6,⟨VF,_⟩,U2⟩:=tY (cut xs Z8 (Z9 63)).sum (k:=6) (by decide) (by decide);obtain⟨c7,⟨U3,_⟩,U4⟩:=tY (cut xs Z8 (Z9 63)).sum (k:=7) (by decide) (by decide);have Lq:∀{ρ:Rho},ρ[0]?=Z9 (Z9 (.od,.list (xs.map .int)))->Vv [] Φ (.fB "sum" (.tv (.sl (.var 0) .nil (.tv (.int 63))))) ρ (.int (cut xs Z8 (Z9 63)).sum):=λh=>vP (w:=(Z7,(cut xs Z8 (Z9 63)).map .int)) (mQ (aC h) uV (vO aN.e) (T3 _ _ _)) rfl (T9 _) rfl
 obtain⟨b,hb⟩:∃b:Bool,Z0 (c6%2)=iA b:=by
  rcases(show c6%2=0\/c6%2=1 by omega)with e|e
  .exact⟨Z7,by rw[e];rfl⟩
  .exact⟨Z6,by rw[e];rfl⟩
 obtain⟨ws,⟨hw,U5⟩,e5⟩:=Uu U3 (n:=ss.sum+mo+1) (by omega);obtain⟨l,hr,e4⟩:=Uw (xs:=xs) hw (by omega);have VG:l.length=ss.sum+mo+1:=by rw[<-U5,<-hr.ks];exact(ae ..).symm
 obtain⟨ps,nV,U6⟩:=Lg (xs:=xs) hr.pk (by omega) (ss:=ss++[mo]) (by rw[ao];show ss.length+1<=60;omega) b;obtain⟨qs,Bb,U7⟩:=Lg (xs:=xs) hr.pk (by omega) (ss:=ss++[mo+1]) (by rw[ao];show ss.length+1<=60;omega) b;have sA:∀n:Nat,(ss++[n]).sum=ss.sum+n:=λn=>by rw[my];simp
 have lA:∀n:Nat,(ss++[n]).length=ss.length+1:=λn=>ao
 have yT:∀n:Nat,0<n->n<=100->∀s∈ss++[n],0<s/\s<=100:=λn h0 h1 s hs=>by
  rcases d9.mp hs with hs|hs
  .exact yS s hs
  .rw[cq.mp hs];exact⟨h0,h1⟩
 have gA:Go l (ss++[mo]):=⟨yT mo (by omega) (by omega),by rw[lA];omega,by rw[sA];omega,by omega,by rw[qW];omega⟩;have gB:Go l (ss++[mo+1]):=⟨yT (mo+1) (by omega) (by omega),by rw[lA];omega,by rw[sA];omega,by omega,by rw[qW];omega⟩;have oU:ps.length=ss.length+1:=nV.len.trans (lA mo);have tZ:qs.length=ss.length+1:=Bb.len.trans (lA (mo+1))
 let dQ:List Ru26->Option GD->Option GD->Rho:=λps u v=>[Z9 (.od,.list (xs.map .int)),Z9 (.fr,.list (ss.map iN)),Z9 (.al,iN mo),Z9 (.al,iA b),Z9 (.al,pk l),Z9 (.al,gH (bF b l) (bA b l)),Z9 (.al,.str (sd b)),Z9 (.fr,.list (ps.map mr)),u,v]
 refine aW (gF (qU (aF (aC rfl) aZ) rfl e1) (Lp ss)) ?_;refine aW (eN (d:=iN mo) (bQ aN.e (cU (aF (aC rfl) aZ) rfl (F3 yS) rfl).e ((FJ (by omega) (by omega)).trans (by rw[<-qY];rfl)) rfl)) ?_;refine aW (eN (d:=iA b) (bQ (cU (aF (Lq rfl).e (aF aN.e aZ)) rfl U2 rfl).e aN.e ((kL (by decide)).trans (by rw[hb])) rfl)) ?_;refine aW (eN (d:=pk l) (cU (aF (aC rfl) (aF (yj (aF (cU (aF (Lq rfl).e (aF aN.e aZ)) rfl U4 rfl).e (aF (bQ (d:=iN (ss.sum+mo+1)) (bQ (d:=.int ((ss.sum+mo:Nat):Int)) (vP (w:=(Z7,ss.map iN)) (d:=.int (ss.sum:Int)) (aC rfl) rfl (by show Res.eK ((dY (ss.map iN)).map Z0)=_;rw[Ln];rfl) rfl).e (aC (d:=.int (mo:Int)) rfl) rfl rfl).e aN.e rfl rfl).e aZ)) rfl e5) aZ)) rfl e4 (cS l))) ?_;obtain⟨j,n,ej,en,es⟩:=qZ b l;refine aW (gF (xs:=[pk rv,pk rv]) (gE (aU (eD (ds:=[pr ("q",2),pr ("z",7)]) (aU (eD (aU iX (aU aN bS))) (aU (eD (aU iX (aU aN bS))) bS))) (aU (eD (ds:=[pr ("q",2),pr ("z",7)]) (aU (eD (aU iX (aU aN bS))) (aU (eD (aU iX (aU aN bS))) bS))) bS))) rfl) ?_;refine aW (Lf (aL:=[Z9 (.od,.list (xs.map .int)),Z9 (.fr,.list (ss.map iN)),Z9 (.al,iN mo),Z9 (.al,iA b),Z9 (.al,pk l),Z9 (.fr,.list [pk (bF b l),pk (bA b l)]),Z8,Z8,Z8,Z8]) (x:=pk l) (j:=j) (n:=n) (v_var rfl (cS l)) (aC (by rw[<-ej];rfl)) rfl en (by rw[es];show[Z9 (G.od,Z1 (xs.map .int)),Z9 (.fr,.list (ss.map iN)),Z9 (.al,iN mo),Z9 (.al,iA b),dV (Z9 (.al,pk l)),Z9 (.fr,.list [pk (bF b l),pk (bA b l)]),Z8,Z8,Z8,Z8]=_;rw[yP (cS l)])) ?_;refine aW (eN (d:=gH (bF b l) (bA b l)) (eD (ds:=[pk (bF b l),pk (bA b l)]) (aU (bJ (aC rfl) aN.e rfl (cS _)) (aU (bJ (aC rfl) aN.e rfl (cS _)) bS)))) ?_;refine aW (eN (d:=.str (sd b)) (bJ (Ev.of (gE (aU iX (aU iX bS)))) (aC (d:=iA b) rfl) (by cases b<;>rfl) rfl)) ?_;have uE:∀{ρ:Rho} {t:C} {n:Nat},ρ[1]?=Z9 (Z9 (.fr,.list (ss.map iN)))->Vv [] Φ t ρ (iN n)->aG [] Φ (.bin .Add (.var 1) (.lst (.cons t .nil))) ρ=.ok (.fr,.list ((ss++[n]).map iN)):=λ{ρ t n} h ht=>by rw[dh];exact Fp (aC h) (Ev.of (gE (aU ht bS))) (add_list (by rw[ae];show ss.length+1<=1000;omega)) (by rw[<-dh (l₁:=ss) (l₂:=[n]) (f:=iN)];exact Lp _)
 refine aW (gF (qU (aF (aC rfl) (aF (aC rfl) (aF (Ev.of (uE rfl (v_var rfl rfl))) (aF (aC rfl) aZ)))) rfl U6) (Ba ps)) ?_;refine q_nm (m:=iN) (xs:=[0,1,ss.length,ss.length+1]) (g:=.fr) (ρ1:=dQ ps Z8 Z8) (J7 (x':=.list ([0,1,ss.length,ss.length+1].map iN)) (xs:=[0,1,ss.length,ss.length+1].map iN) (λi z=>by cases z) (gE (aU aN (aU aN (aU (eB (aF (aC rfl) aZ) (A7 ss) rfl) (aU (bQ (d:=iN (ss.length+1)) (eB (d:=.int (ss.length:Int)) (aF (aC rfl) aZ) (A7 ss) rfl).e aN.e rfl rfl) bS))))) rfl) qV (λ_ ρ=>∃u,ρ=dQ ps u Z8) ⟨Z8,rfl⟩ ?_ ?_
 .rintro pre m post ρ hx ⟨u,rfl⟩
  have hm:m<=ss.length+1:=by
   have:m∈[0,1,ss.length,ss.length+1]:=by rw[hx];exact ax _ (.head _)
   simp only[ay,iy,or_false]at this;omega
  obtain⟨M,h1,h2⟩:=UU hr.pk nV gA (m:=m) (by rw[lA];exact hm) (by have:=Gg (ss:=ss++[mo]) (λs hs=>(gA.pos s hs).1) (i:=m) (j:=(ss++[mo]).length) (by rw[lA];exact hm);rw[jo,qW]at this;omega);refine vR (Q:=Nx _) (k:=!true) (qH (bM (cU (aF (Ev.of (qU (aF (mQ (aC rfl) uV (vO (aC (d:=.int (m:Int)) rfl)) (uD mr ps (by omega))) (aF (aC rfl) (aF (aC rfl) aZ))) rfl h1)) (aF (aC rfl) (aF (mQ (Ev.of (uE rfl (v_var rfl rfl))) uV (vO (aC (d:=.int (m:Int)) rfl)) (uD iN (ss++[mo]) (by rw[lA];exact hm))) aZ))) rfl h2 rfl).e rfl)) rfl ⟨_,gG,Z9 (.al,iN m),rfl⟩
 rintro ρ ⟨u,rfl⟩
 refine aW (gF (qU (aF (aC rfl) (aF (aC rfl) (aF (Ev.of (uE rfl (bQ (d:=iN (mo+1)) (aC (d:=.int (mo:Int)) rfl) aN.e rfl rfl))) (aF (aC rfl) aZ)))) rfl U7) (Ba qs)) ?_;have zD:pd ss<=100:=by omega
 have Im:100<pd (ss++[mo+1]):=by rw[qW];exact d2
 have Gj:∀post:List Ru26,yL [.list ((qs++post).map mr),gH (bF b l) (bA b l),.str (sd b)]=.ok (.fr,.bool Z7):=λpost=>US (UX hr.pk Bb gB zD Im post);have yU:∀{ρ:Rho} {t:C} {post:List Ru26},ρ[7]?=Z9 (Z9 (.fr,.list (qs.map mr)))->Ev [] Φ t ρ (.list (post.map mr))->post.length<=100->Ev [] Φ (.bin .Add (.var 7) t) ρ (.list ((qs++post).map mr)):=λ{ρ t post} h ht hn=>Ev.of (by rw[dh];exact Fp (aC h) ht (add_list (by rw[ae,ae];omega)) (by rw[<-dh];exact Ba _));have yV:=Gj [];rw[e9]at yV;refine vR (k:=(!true)||(!true)) (tS (qH (bM (cU (aF (aC (d:=.list (qs.map mr)) rfl) (aF (aC rfl) (aF (aC rfl) aZ))) rfl yV rfl).e rfl)) λ_=>qH (bM (cU (aF (yU rfl (mQ (aC rfl) uV (vO aN.e) (uD mr qs (n:=1) (by omega))) (by rw[df];omega)) (aF (aC rfl) (aF (aC rfl) aZ))) rfl (Gj (qs.take 1)) rfl).e rfl)) rfl ?_;have Gk:qs[0]?=Z9 (qs[0]'(by omega)):=au _;generalize qs[0]'(by omega)=q0 at Gk;have U8:q0.1=!b:=by have e:(ss++[mo+1])[0]?=Z9 ((ss++[mo+1])[0]'(by rw[lA];omega)):=au _;obtain⟨R,r,rfl,_⟩:=Bb.at_ 0 q0 _ Gk e;rfl
 let lst:Ru26:=(!b,bF b l,bA b l,[])
 refine aW (eN (d:=mr lst) (eD (ds:=[gH (bF b l) (bA b l),.str (sd (!b)),pk []]) (aU (v_var rfl (FI _ _)) (aU (bJ (x:=mr q0) (bJ (d:=mr q0) (aC rfl) aN.e (by have:=FK mr (xs:=qs) (i:=0) q0 (by decide) (by omega);rw[this];show Res.ok (mr (qs.getD 0 q0))=_;rw[am,Gk];rfl) (vY q0)).e aN.e (by show Res.ok (Z2 (sd q0.1))=_;rw[U8]) rfl) (aU (eD bS) bS))))) ?_;have yW:=HF hr.pk Bb gB (by rw[lA];omega);refine eX (iK (v_and (cU (aF (yU rfl (Ev.of (gE (ds:=[lst].map mr) (aU (v_var rfl (vY lst)) bS))) (show 1<=100 by decide)) (aF (aC rfl) (aF (aC rfl) aZ))) rfl (Gj [lst]) rfl).e λ_=>gD (k:=Z7) (Ev.of (qU (aF (Ev.of (Fp (xs:=(lst::qs).map mr) (Ev.of (gE (ds:=[lst].map mr) (aU (v_var rfl (vY lst)) bS))) (aC rfl) (add_list (a:=[lst].map mr) (b:=qs.map mr) (by rw[ae,ae];show 1+qs.length<=1000;omega)) (Ba (lst::qs)))) (aF (aC rfl) (aF (aC rfl) aZ))) rfl yW)) (Ev.of (gE bS)) rfl)) rfl
open PySem.Spec PyProof.Rows L2
def top (i:Nat):Stmt:=PySem.Challenge.pw_likebook_k26_too_many_reasons.main.body.getD i (.Pass ⟨0,0,0,0⟩)
abbrev uF:List Str:=["isinstance","str","tuple","sorted","max","dict","any","list","len","range","ValueError","sum"]
abbrev Rz:List aM:=[
 ⟨"check_side",top 15,["side"],["side"],["isinstance","str"],[],yB,tU,.n,[]⟩,
 ⟨"side_of",top 16,["case","side"],["case","side"],[],[0],yC,pO,.n,[]⟩,
 ⟨"greatest",top 18,["pairs","found","name","amount"],["pairs"],["tuple","sorted","max"],[],yD,tV,.n,[]⟩,
 ⟨"degree",top 19,["one","name"],["one","name"],["dict"],[],yE,kM,.n,[]⟩,
 ⟨"over",top 22,["one","other","held"],["one","other"],["dict"],[],yF,mK,.n,[]⟩,
 ⟨"within",top 20,["one","other"],["one","other"],[],[4],yG,iE,.n,[]⟩,
 ⟨"join",top 21,["one","other"],["one","other"],[],[2],yH,pP,.n,[]⟩,
 ⟨"is_least",top 28,["one","rivals"],["one","rivals"],["any"],[5],yI,pQ,.n,[]⟩,
 ⟨"lifted",top 27,["free","caught","step","name","rivals","made"],["free","caught","step"],[],[7,6,3],yJ,pR,.n,[]⟩,
 ⟨"beyond",top 26,["least","held","reach","free","caught","found","name"],["least","held","reach"],["list"],[4,8,3,5],tW,mL,.n,[]⟩,
 ⟨"least_reasons",top 25,["book","case","side","held","least","one"],["book","case","side"],["sorted","len"],[5,1,9],vS,mM,.n,[("MOST_REASONS",.i 100)]⟩,
 ⟨"_law_mix",top 30,["_law_cell","_law_k","_law_some"],["_law_cell","_law_k"],[],[],Fv,fG,.n,[]⟩,
 ⟨"_law_cell_at",top 31,["_law_script","_law_k"],["_law_script","_law_k"],["len"],[],AQ,mO,.n,[]⟩,
 ⟨"_law_product",top 32,["_law_sizes_here","_law_product_here","_law_size"],["_law_sizes_here"],[],[],Fw,pS,.n,[]⟩,
 ⟨"_law_sizes",top 33,["_law_script","_law_sizes_here"],["_law_script"],["len"],[13,11,12],AR,AS,.n,[]⟩,
 ⟨"_law_words",top 34,["_law_cell","_law_many","_law_letters","_law_words_here","_law_k","_law_last"],["_law_cell","_law_many"],["sorted","range"],[],Fx,AU,.n,[]⟩,
 ⟨"_law_room",top 35,["_law_script","_law_words_here","_law_rows","_law_k","_law_most"],["_law_script","_law_words_here"],["tuple","range","len"],[11,12],AV,AW,.n,[]⟩,
 ⟨"_law_bar",top 36,["_law_room_here","_law_first","_law_size","_law_cell","_law_rows","_law_k","_law_word","_law_amount"],["_law_room_here","_law_first","_law_size","_law_cell"],["tuple","range","len"],[11],AX,yK,.n,[]⟩,
 ⟨"_law_book",top 37,["_law_script","_law_room_here","_law_sizes_here","_law_at","_law_book_here","_law_first","_law_side","_law_rival","_law_k","_law_bar_here","_law_reason","_law_case"],["_law_script","_law_room_here","_law_sizes_here","_law_at"],["range","len"],[11,12,17],AY,AZ,.n,[]⟩,
 ⟨"_law_too_much",top 38,["_law_book_here","_law_case","_law_side","_law_error","e","_law_some"],["_law_book_here","_law_case","_law_side"],["isinstance","ValueError"],[10],J9,yL,.g J',[]⟩,
 ⟨"_law_picked",top 39,["_law_one","_law_room_here","_law_sizes_here","_law_words_here","_law_first","_law_size"],["_law_one","_law_room_here","_law_sizes_here"],["len"],[],Fy,A0,.n,[]⟩,
 ⟨"_law_told_well",top 40,["_law_found","_law_room_here","_law_sizes_here","_law_one"],["_law_found","_law_room_here","_law_sizes_here"],["sorted","len","isinstance","list"],[20,13],Fz,yM,.n,[]⟩]
abbrev Lr:aM:=⟨"law",top 41,["_law_script","_law_sizes_here","_law_most","_law_at","_law_room_here","_law_case","_law_side","_law_book_here","_law_many","_law_last"],["_law_script"],["len","sum"],[10,19,18,21,16,15,11,13,14],FA,yN,.n,[]⟩
abbrev Xt:List XR:=[⟨"NoSide",[("Unknown",Z6),("Twice",Z6),("NoRow",Z6),("NotYours",Z6),("NoRuling",Z6),("NotAllowed",Z6),("Late",Z6),("NoCourt",Z6),("NoReason",Z6),("NoSide",Z7),("NoPack",Z6),("TooMuch",Z6)],"BookError"⟩,⟨"TooMuch",[("Unknown",Z6),("Twice",Z6),("NoRow",Z6),("NotYours",Z6),("NoRuling",Z6),("NotAllowed",Z6),("Late",Z6),("NoCourt",Z6),("NoReason",Z6),("NoSide",Z6),("NoPack",Z6),("TooMuch",Z7)],"BookError"⟩]
theorem Gn:oks (Rz++[Lr]) Xt uF 0 (Rz++[Lr])=true:=by decide+kernel
theorem U9:fOks (Rz++[Lr]) (Rz++[Lr]):=⟨rfl,rfl,rfl,rfl,rfl,rfl,rfl,rfl,rfl,rfl,rfl,rfl,rfl,rfl,rfl,rfl,rfl,rfl,rfl,rfl,rfl,rfl,rfl,trivial⟩
def uG:DefRec:=⟨"law",lK (top 41),z0m (top 41),z08 (top 41),⟨165,0,182,152⟩⟩
theorem yX:KEq yZ (Rz++[Lr]) uF Xt:=by
 rw[PySem.W.Fast.tkeq_eq];intro P
 kernel_rfl
theorem U':Tp.said PySem.Challenge.rw_likebook_k26_too_many_reasons=true:=by
 rw[PySem.W.Fast.tsaid_eq]
 kernel_rfl
theorem Va:W.opening lE=W.plainProg lE.main.scope.names:=by kernel_rfl
theorem Vb:∀s,fenceModules? lE s=Z9 s:=λs=>by kernel_rfl
theorem Vc:W.defOf v8 PySem.Challenge.rw_likebook_k26_too_many_reasons.row.name=Z9 (uG,[]):=by kernel_rfl
theorem Vd:lE.theDef PySem.Challenge.rw_likebook_k26_too_many_reasons.row.name=Z9 (uG.params,uG.body,uG.scope):=by kernel_rfl
theorem Ve:W.kwWritten? uG.params.kwonlyargs uG.params.kw_defaults=Z9 []:=by kernel_rfl
theorem Vf:(!PySem.Challenge.rw_likebook_k26_too_many_reasons.row.writes||PySem.Challenge.rw_likebook_k26_too_many_reasons.row.records.isEmpty)=true:=by kernel_rfl
theorem Vg:(W.chainsOk v8&&W.opensWell lE&&(W.frees PySem.Challenge.rw_likebook_k26_too_many_reasons.row.toRowW&&PySem.Challenge.rw_likebook_k26_too_many_reasons.row.within.isEmpty))=true:=by kernel_rfl
theorem walk {l:W.OpenLaw}{q:bu}{loose:List Str}{XP:(Str->Option Value)->Heap->Prop}{YP:World->Heap->Prop}{d:DefRec}{K:i5->Z5}(hn:l.most=Z9 63)(hdf:d.params.defaults=[])
  (hY:∀(w:World) (h:Heap),YP w h->(K w.params).In h)
  (F:∀(w:World) (mg:Str->Option Value) (fa:Addr) (h:Heap),(K w.params).In h->h.Ns ce mg->mg d.name=Z9 (.ref fa)->∃fd:ko,(∀(s:ak) (u:Value),rf s fd ⟨[u],[]⟩ [("_law_script",u)])/\∀base:Heap,(K w.params).In base->base.Ns ce mg->FnOk l.prog w (K w.params) mg base kS 23 fa fd ["_law_script"] (spD (K w.params) 1 yN)):
  W.WalkO q loose XP YP l.row.toRowW d [] (λf vs=>PySem.call f vs):=
 L2.walk_of (n:=63) (k:=23) (x:="_law_script") (CX:=λ_=>kS) (sp:=λw=>spD (K w.params) 1 yN) hn (by decide) hdf ⟨rfl,by decide,by decide⟩ hY F (λ_ _ a ns hl _ hS=>⟨_,_,_,rfl,R3 hS,U0 hl,λv H' _ r=>r⟩) λ_ _ _ _ _ z=>z
theorem Gp:tN Rz:=⟨λ_ _ _ _ _ _=>ym λ_=>rfl,λ_ _ _ _ _ _=>mI λ_ _=>rfl,λ_ _ _ _ _ _=>ym λ_=>rfl,λ_ _ _ _ _ _=>mI λ_ _=>rfl,λ_ _ _ _ _ _=>mI λ_ _=>rfl,λ_ _ _ _ _ _=>mI λ_ _=>rfl,λ_ _ _ _ _ _=>mI λ_ _=>rfl,λ_ _ _ _ _ _=>mI λ_ _=>rfl,λ_ _ _ _ _ _=>tM λ_ _ _=>rfl,λ_ _ _ _ _ _=>tM λ_ _ _=>rfl,λ_ _ _ _ _ _=>tM λ_ _ _=>rfl,λ_ _ _ _ _ _=>mI λ_ _=>rfl,λ_ _ _ _ _ _=>mI λ_ _=>rfl,λ_ _ _ _ _ _=>ym λ_=>rfl,λ_ _ _ _ _ _=>ym λ_=>rfl,λ_ _ _ _ _ _=>mI λ_ _=>rfl,λ_ _ _ _ _ _=>mI λ_ _=>rfl,λ_ _ _ _ _ _=>by4 λ_ _ _ _=>rfl,λ_ _ _ _ _ _=>by4 λ_ _ _ _=>rfl,λ_ _ _ _ _ _=>tM λ_ _ _=>rfl,λ_ _ _ _ _ _=>tM λ_ _ _=>rfl,λ_ _ _ _ _ _=>tM λ_ _ _=>rfl,trivial⟩
end Mk
open PySem PySem.W PyProof.Rows Mi
set_option maxRecDepth 100000 in
set_option maxHeartbeats 0 in
theorem PySem.Challenge.cw_likebook_k26_too_many_reasons_holds : PySem.Challenge.rw_likebook_k26_too_many_reasons.Holds := by
 refine Tp.holds (l:=PySem.Challenge.rw_likebook_k26_too_many_reasons) (q:=Mk.v8) (d:=Mk.uG) (K:=Mk.yZ) (M:=100000) (N:=200000) Mk.U' (Tp.v7 _ _ Mk.yY) Mk.Va rfl Mk.Vb (by decide) Mk.Lu Mk.Lw Mk.Vc Mk.Vd Mk.Ve Mk.Vf Mk.Vg ⟨rfl,rfl,rfl,rfl,rfl,by decide+kernel⟩ (by w_witness2) ?_;refine Mk.walk (l:=PySem.Challenge.rw_likebook_k26_too_many_reasons) rfl rfl (λw h Y=>Y) ?_;intro w mg fa h KX G BZ;exact all_rows (Rs:=Mk.Rz) (lr:=Mk.Lr) (xt:=Mk.Xt) (fr:=Mk.uF) KX G BZ rfl rfl Mk.Gn Mk.U9 (Jw (λr hr=>(yt Mk.yX w.params).1 r (fh _ hr)) Mk.Gp) ((yt Mk.yX w.params).1 Mk.Lr (ax _ (.head _))) (λ_ _ _ _ _ _ s v=>.of_eq rfl) (yt Mk.yX w.params).2.1 (yt Mk.yX w.params).2.2.1 (λ_=>by decide) (yt Mk.yX w.params).2.2.2
