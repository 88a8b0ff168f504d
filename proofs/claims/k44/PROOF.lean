import PyProof.Rows.All
import Wide.All
import OpenK.AllK
import PySem.Challenge.RW_likebook_k44_days_gone_by
open Option renaming some->Z9,none->Z8
open PySem.W renaming Frag->Z5,findIn->Z4,looks_findIn->Z3,keepIn->Z2,kia_one->Z1,fnOf->Z0,codeIn->ZZ,nsIn->ZY,subIn->ZX
open PySem.PyData renaming strOk->ZW,str->ZV,int->ZU,canLay0->ZT
open PySem.Value renaming ref->ZS
open Bool renaming true->Z7,false->Z6
open Lean.Parser.Command in
local macro_rules|`(def $a:declId $b:optDeclSig $c:declVal)=>`(noncomputable def $a:declId $b:optDeclSig $c:declVal)|`(abbrev $a:declId $b:optDeclSig $c:declVal)=>`(noncomputable abbrev $a:declId $b:optDeclSig $c:declVal)
noncomputable section
open Array renaming getElem?_eq_some_iff->gy,getElem?_eq_getElem->l9,length_toList->pu,append_assoc->qc,find?_toList->qg
open Bool renaming and_eq_true_iff->au,and_eq_true->cg,or_eq_true_iff->fi,eq_iff_iff->ju,false_ne_true->jx,beq_eq_decide_eq->kq,or_true->oa,or_false->p8,eq_false_iff->qt
open Int renaming toNat_natCast->fh,emod_nonneg->fk,emod_lt_of_pos->g6
open List renaming getD_eq_getElem?_getD->aa,getElem?_eq_getElem->ac,length_map->ae,getElem?_map->ao,mem_of_getElem?->aq,length_append->aw,getElem?_eq_some_iff->ax,replicate->ay,mem_singleton->az,mem_cons_of_mem->bc,mem_append_right->bf,mem_cons_self->bg,length_cons->bh,mem_cons->bq,map_cons->br,mem_append->bu,range->bw,mem_map->bz,length_replicate->b6,getElem?_append_right->b8,getElem?_set_ne->b9,all_eq_true->cc,mem_iff_getElem?->ce,map_append->cj,length_filter_le->cn,getElem?_set_self->cq,contains_iff_mem->cr,length_set->cw,length_range->cx,getElem?_append_left->cy,getElem?_replicate->cz,lookup_cons->c7,size_toArray->c8,all_cons->db,map_inj_left->dh,mem_filter->dn,mem_range->dq,length_singleton->dr,filterMap_cons->dt,getElem?_set->du,append_nil->dw,getElem?_range->ee,nodup_cons->ef,length_take->eh,map_map->ei,getElem?_eq_none->ej,find?_cons->et,mem_append_left->ey,filter_eq_self->fj,getElem_mem->fv,findIdx?_cons->fy,ext_getElem?->gg,getElem?_cons_succ->gh,filter_cons_of_pos->gj,filter_cons_of_neg->gk,not_mem_nil->gv,take_length->gw,filter_append->gz,drop_eq_getElem_cons->g8,nodup_append->ij,mem_filterMap->iz,find?_cons_of_pos->i7,find?_eq_none->i8,mem_zipIdx_iff_getElem?->i9,length->jh,isEmpty_map->jm,getElem?_take_of_lt->jq,any_cons->jr,contains_cons->jy,lookup->j4,append_assoc->kb,take_succ->kg,find?_append->kh,filter_eq_nil_iff->kl,filter_congr->km,isEmpty_iff->ku,mem_of_mem_drop->lg,getElem?_append->lh,map->lj,take_append_of_le_length->ll,map_congr_left->ls,filter_filter->lx,findIdx?_eq_none_iff->ma,take_sublist->mh,findIdx?_map->ml,filterMap_cons_none->mo,filterMap_cons_some->mu,length_eq_zero_iff->mz,drop_length->m5,getElem?_cons_zero->nh,find?_cons_of_neg->nz,take_of_length_le->n5,toArray->n9,of_mem_zip->og,length_nil->oh,filter_nil->om,take_append_drop->oo,getElem?_zipIdx->pd,zipIdx_map_fst->pw,filter_sublist->py,set_set->q8,all_map->q9,find?_isSome->rg,map_id->se
open Nat renaming le_refl->ak,le_trans->bj,lt_of_lt_of_le->ci,ne_of_lt->cv,zero_le->c9,lt_irrefl->dm,sub_self->fz,lt_succ_self->iu,le_of_lt->i0,lt_of_le_of_lt->j0,le_succ->j5,lt_trans->lv,le_of_not_lt->my,succ_lt_succ->m9,add_sub_cancel'->pi,add_le_add_left->pv
open Option renaming map_eq_some_iff->bp,isNone_iff_eq_none->fq,bind_eq_some_iff->iy,isSome_map->jb
open Prod renaming fst->nc,snd->tq
open PyProof.Rows renaming seqObj->jp,AllBare->lu,subscriptTail_builtinR->nv,envOfC->ox,Constant_none->pz,IntsAre->sg,boot_range->sj,Subscript_->sw
open PySem renaming wpAny_bind->ah,PyData->av,sizeLine->ba,Shared->bb,mainGlobals->bt,wpAny_pure->bv,sizeLine_eq->cb,wpAny_loadPart_at->cf,Program->cu,starEach->dj,bootBuiltins->dk,compareOp->dz,FuncData->d5,behindInMarks->d6,Params->eu,wpAny_mono->ez,wpAny_truthy_bool->gb,PassesOwn->gc,foldedSetIterable->gf,assignEach->gm,Around->gn,wpAny_holding->gu,NameKind->gx,wpAny_passesOwn->g9,wpAny_standAt->il,wpAny_isSubtype_exc->ip,wpAny_getItem_str_slice->iw,codeAny_mono->i3,wpAny_Call_Name_kw->i4,tupleKind_room_in1->i5,noteFrame->ja,sysModules->jc,binaryOp->jf,bindArgs->jg,wpAny_field->ji,codeAny_call_builtin->jj,swapsWith->jk,codeAny->jl,backTo->jn,importedModules->jt,Paired->jv,rawInt->jw,sliceBounds->j6,setFlight->j7,treeTable->j8,wpAny_setField->j9,plainObj_wpAny_Assign_Attribute->ko,checkBuiltinCall->kr,seqItems?->kt,attributeBase->kz,OsState->k7,keywordEach->k8,unbindBehindTheSuite->li,wpAny_execs_nil->lm,letOwnedTupleGo->lq,post_val_or_str->lr,wpAny_pyIter_list->mf,excClassObj->mi,wpAny_comprehension_free->mn,tupleKind->mv,wpAny_call_entry->m7,wpAny_callSpecial?_slot->m8,wpAny_pyNext_range_end->nk,wpAny_pyIter_rangeiter->nl,wpAny_call->nq,Keyword->nr,wpAny_typeOf->n7,wpAny_rule->n8,codeAny_builtin->ol,wpAny_isTrue_Compare1->on,wpAny_loadName_local->oq,backToKw->ou,subscripted->oy,sliceRange_one->oz,wpAny_seqItems->o0,handleBy->o4,methodCallForm->pb,BindsTo->pe,OwnTail->ph,wpAny_raiseNew_none->pp,swapsWithSole->p5,swappedStores->p7,plainId_quiet->qa,methodCallPos->qb,wpAny_Name->qd,assign->qe,wpAny_pyIter_range->qf,wpAny_pyIter_tuple->qh,isInstance->qi,wpAny_assign_Name->qj,valueAt->ql,getItem->qm,call_meetsIn->qo,seqIndex_neg->qp,slot_list_getitem->qr,callerA->qs,wpAny_newObj_type->qu,Operator->qv,getAttr?->qw,wpAny_pyIter_enum->qx,GenState->qy,isTrue->rh,pyIter->ri,IsRangeIter->rj,seqIndex_of->ro,builtinKind->rq,leaving->sf,builtinsNs->si,typeLookup->sr,typeIs_str->sx,PlainAttrs->sy,call_meets->tf,excMatches->tm,getAttr->tt,typeOf->tu
open PySem.Builtin.Dict renaming updateFrom->m6
open PySem.Builtin.Range renaming rangeSize->j3,rangeFitsLong->lw,small->pj
open PySem.Builtin.SmallTypes renaming nextOf->ly
open PySem.Builtin.Str renaming strSliceIndices->gr
open PySem.Calls renaming Name_function_global->jd,evalArgs_plain->lb,loadGlobal_global->mw,callWith_builtin->ny
open PySem.Heap renaming get?_push_of_some->am,lt_size->bn,get?_push_size->bx,get?_update_other->fg,SameBut->gq,get?_update_self->g7,get?_none_of_le->ig,get?_update_ne->jo,get?_push_at->mj,size_push->ot,MadeExcOf->pc,NewExcOf->p9
open PySem.Heap.Ns1 renaming of_empty->qk
set_option Elab.async false
set_option genInjectivity false
set_option genSizeOf false
set_option compiler.extract_closed false
set_option linter.all false
set_option maxRecDepth 100000
theorem dc {p:Prop} [Decidable p] (h:decide p=true:=by rfl):p:=by simpa using h
theorem tw {c:Prop}{d:Decidable c}(h:c){α:Sort _}{a b:α}:@ite α c d a b=a:=if_pos h
theorem tx {c:Prop}{d:Decidable c}(h:¬c){α:Sort _}{a b:α}:@ite α c d a b=b:=if_neg h
theorem tz {α}{a b:α}(h:Z9 a=Z9 b):a=b:=Option.some.inj h
theorem t0 {α β}{a c:α}{b d:β}(h:(a,b)=(c,d)):a=c∧b=d:=Prod.mk.inj h
theorem t8 {p:Prop} [Decidable p] (h:decide p=Z7):p:=of_decide_eq_true h
theorem ua {p:Prop} [Decidable p] (h:p):decide p=true:=decide_eq_true h
theorem ub {p:Prop} [Decidable p] (h:¬p):decide p=false:=decide_eq_false h
theorem uc {α} [BEq α] [LawfulBEq α] {a b:α}(h:(a==b)=Z7):a=b:=beq_iff_eq.mp h
abbrev Xv (x:PySem.Str):Prop:=(x==("__debug__":PySem.Str))=Z6
namespace Tp
open PySem PySem.W PyProof.Rows
def q0:Pos:=⟨0,0,0,0⟩
def an:Option Value:=Z9 (.ref 6)
def ev (p:cu):Env:={scope:=p.main.scope,locals:=mainNs,globals:=mainNs,cells:=[],code:=.ref 13,frame:=Z9 14}
def cd (p:cu):Code:=.body (behindTheImports p) (ev p)
def grow:List Obj->Nat->BT->BT
 | [],_,t=>t
 |o::l,i,t=>grow l (i+1) (t.ins i o)
def lift (s:bb):SharedT:=⟨grow s.heap.objs.toList 0 .nil,s.heap.objs.size,s.heap.life,s.gens,s.drawn,s.toks,s.os⟩
def pre (p:cu)(H:eu->Heap)(d:Drawn)(k:Nat)(w:World)(os:k7):Option (bb×Thread):=topGo j8 p w 11 an 12 ⟨H w.params,#[],d,k,os⟩ (topStub p)
def pL (p:cu)(H:eu->Heap)(d:Drawn)(k:Nat)(w:World)(os:k7):SharedT:=lift (((pre p H d k w os).map nc).getD ⟨H w.params,#[],d,k,os⟩)
def run (p:cu)(H:eu->Heap)(d:Drawn)(k N:Nat)(w:World)(os:k7):Option (Flow×SharedT×Code×Pos):=segRunT j8 p w 11 an 1 N (pL p H d k w os) (piecesOf (behindTheImports p) (ev p) (cd p) q0 [topFrame q0])
def PreEq (p:cu)(H:eu->Heap)(d:Drawn)(k:Nat):Prop:=∀(w:World) (os:k7),((H w.params).isNs bt&&(#[]:Array qy).size==0,(H w.params).objs.size,(H w.params).nsMap bt "__annotations__",pre p H d k w os,λs c=>segRun j8 p w 11 an 1 1 s (blockOf (behindTheImports p) (ev p) c q0 [topFrame q0]))=(Z7,11,an,Z9 ((pL p H d k w os).abs,⟨denote j8 (cd p),cd p,q0,[topFrame q0]⟩),λs c=>Z9 (.next,s,c,q0))
def seen (p q:cu)(R:WRecords)(as:List Addr)(H:eu->Heap)(w:World)(s:SharedT):=(staticsOk (jt p.main.body) (H w.params) s.abs.heap&&namesBound p s.abs.heap&&gensDone s.abs&&laidKept (H w.params) s.abs.heap,openSeen q [] (jt p.main.body) (λs=>xlAt q [] s&&recOk R s) Z7 s.abs,as.map s.abs.heap.get?)
def pick {α:Type}(f:SharedT->α):Flow×SharedT×Code×Pos->Option (Code×α)
 |(.next,s,c,_)=>Z9 (c,f s)
 |_=>Z8
def j' (p q:cu)(R:WRecords)(as:List Addr)(K:eu->List (Addr×Obj))(H:eu->Heap)(d:Drawn)(k N:Nat):Prop:=∀(w:World) (os:k7),(run p H d k N w os).bind (pick (seen p q R as H w))=Z9 (cd p,Z7,openGood q [],(K w.params).map λx=>Z9 x.2)
theorem BF (b:String->Option Builtin)(p:cu)(w:World)(n:Nat)(a:Option Value)(s:bb)(c:Code)(ps q:Pos):topRun b p w n a 2 s ⟨doneF .next,c,ps,[topFrame q]⟩=Z9 s:=by rfl
theorem left {K:eu->List (Addr×Obj)}(o:∀w,(fencedOpening j8 p w N).map (fun s=>(s.heap,s.gens,s.drawn,s.toks))=Z9 (boot_heap w.params,#[],boot_drawn,boot_toks))(le:12+(1+(M+2))<=N)
  (h1:PreEq p boot_heap boot_drawn boot_toks) (h2:j' p q R as K boot_heap boot_drawn boot_toks M):LeftO p q [] (λs=>xlAt q [] s&&recOk R s) (λs=>as.map s.heap.get?) (λw=>(K w.params).map λx=>Z9 x.2) N:=λw=>by
 obtain⟨⟨h,gs,d,k,os⟩,e,e'⟩:=bp.mp (o w);have e1:=t0 e';have e2:=t0 e1.2;have e3:=t0 e2.2;obtain rfl:h=boot_heap w.params:=e1.1;obtain rfl:gs=#[]:=e2.1;obtain rfl:d=boot_drawn:=e3.1;obtain rfl:k=boot_toks:=e3.2;have a:=t0 (h1 w os);have a2:=t0 a.2;have a3:=t0 a2.2;have a4:=t0 a3.2;obtain⟨⟨f,s,c,ps⟩,r1,r2⟩:=iy.mp (h2 w os);cases f with
 |next=>
  have b:=t0 (tz r2);have b1:=t0 b.2;have b2:=t0 b1.2;obtain rfl:c=cd p:=b.1;have t1:topRun j8 p w 11 an (M+2) (pL p boot_heap boot_drawn boot_toks w os).abs (restOf (behindTheImports p++[]) (ev p) (cd p) q0 [topFrame q0])=Z9 s.abs:=piece_app (segRun_of r1) (BF j8 p w 11 an s.abs (cd p) ps q0);rw[dw]at t1;have t4:=topRun_mono (N-(12+(1+(M+2)))) _ _ _ _ (go_top a4.1 (piece_block (congrFun (congrFun a4.2 (pL p boot_heap boot_drawn boot_toks w os).abs) (cd p)) t1));rw[pi le]at t4;have t:topFrom j8 p w N ⟨boot_heap w.params,#[],boot_drawn,boot_toks,os⟩=Z9 s.abs:=by unfold topFrom;rw[a.1,a2.1,a3.1,t4];show(match staticsOk (jt p.main.body) (boot_heap w.params) s.abs.heap&&namesBound p s.abs.heap&&gensDone s.abs&&laidKept (boot_heap w.params) s.abs.heap with|true=>Z9 s.abs|false=>Z8)=_;rw[b1.1]
  unfold openEnds;rw[e];show(topFrom j8 p w N _).map _=_;rw[t];exact congrArg Z9 (Prod.ext b2.1 b2.2)
 |_=>cases r2
theorem pre_r:PreEq=PreEq:=rfl
def BH (p q:cu)(R:WRecords)(H:eu->Heap)(w:World)(s:SharedT):=(staticsOk (jt p.main.body) (H w.params) s.abs.heap&&namesBound p s.abs.heap&&gensDone s.abs&&laidKept (H w.params) s.abs.heap,openSeen q [] (jt p.main.body) (λs=>xlAt q [] s&&recOk R s) Z7 s.abs)
def RunA (p q:cu)(R:WRecords)(H:eu->Heap)(d:Drawn)(k N:Nat):Prop:=∀(w:World) (os:k7),(run p H d k N w os).bind (pick (BH p q R H w))=Z9 (cd p,Z7,openGood q [])
def RunB (p:cu)(as:List Addr)(K:eu->List (Addr×Obj))(H:eu->Heap)(d:Drawn)(k N:Nat):Prop:=∀(w:World) (os:k7),(run p H d k N w os).bind (pick λs=>as.map s.abs.heap.get?)=Z9 (cd p,(K w.params).map λx=>Z9 x.2)
theorem MY {e h:Type}{f:SharedT->e}{g:SharedT->h}{x:Option (Flow×SharedT×Code×Pos)}{a:e}{b:h}(d:x.bind (pick f)=Z9 (c,a))(j:x.bind (pick g)=Z9 (c,b)):x.bind (pick λs=>(f s,g s))=Z9 (c,a,b):=by
 cases x with
 |none=>cases d
 |some y=>
  obtain⟨fl,s,k,ps⟩:=y;cases fl with
  |next=>have i:=t0 (tz d);show Z9 (k,f s,g s)=_;rw[i.1,i.2,(t0 (tz j)).2]
  |_=>cases d
theorem tS {K:eu->List (Addr×Obj)}(c:RunA p q R H d k N)(f:RunB p as K H d k N):j' p q R as K H d k N:=λw os=>by
 have h:=MY (c w os) (f w os);cases e:run p H d k N w os with
 |none=>rw[e]at h;cases h
 |some y=>
  rw[e]at h;obtain⟨fl,s,g,ps⟩:=y;cases fl with
  |next=>have a:=t0 (tz h);have b:=t0 a.2;show Z9 (g,(BH p q R H w s).1,(BH p q R H w s).2,as.map s.abs.heap.get?)=_;rw[a.1,b.2,b.1]
  |_=>cases h
theorem runA_r:RunA=RunA:=rfl
theorem runB_r:RunB=RunB:=rfl
end Tp
lay_quick Tp.PreEq Tp.RunA Tp.RunB
name_quick tpre for Tp.PreEq by Tp.pre_r
name_quick truna for Tp.RunA by Tp.runA_r
name_quick trunb for Tp.RunB by Tp.runB_r
namespace Tp
open PySem PySem.W PyProof.Rows
theorem rn_r:run=run:=rfl
end Tp
name_quick trn for Tp.run by Tp.rn_r
namespace Tp
open PySem PySem.W PyProof.Rows
def obj (p:cu)(M:Nat)(P:eu)(a:Addr):Obj:=((PySem.W.Fast.trn p boot_heap boot_drawn boot_toks M ⟨λ_ _=>0,P⟩ default).map λx=>(x.2.1.tree.get a).getD default).getD default
def Ko (p:cu)(M:Nat)(as:List Addr)(P:eu):Frag:=as.map λa=>(a,obj p M P a)
theorem wO (p:cu)(M:Nat)(as:List Addr)(P:eu):as=(Ko p M as P).map (·.1):=by unfold Ko;rw[ei];exact(se _).symm
def said (l:OpenLaw):Bool:=l.wellSaid
theorem said_r:said=said:=rfl
theorem holds {K:eu->Frag}(a:said l=Z7)(b:∀P,as=(K P).map (·.1))(c:opening l.row.prog=plainProg l.row.prog.main.scope.names)(g:Nat.ble 600 N=Z7)(h:∀s,fenceModules? l.row.prog s=Z9 s)(le:12+(1+(M+2))<=N)
  (i:PreEq l.row.prog boot_heap boot_drawn boot_toks) (j:j' l.row.prog q l.row.records as K boot_heap boot_drawn boot_toks M) (a1:defOf q l.row.name=Z9 (d,[])) (a2:l.row.prog.theDef l.row.name=Z9 (d.params,d.body,d.scope)) (a3:kwWritten? d.params.kwonlyargs d.params.kw_defaults=Z9 []) (a4:(!l.row.writes||l.row.records.isEmpty)=Z7)
  (k:(chainsOk q&&opensWell l.row.prog&&(frees l.row.toRowW&&l.row.within.isEmpty))=Z7) (m:l.row.prog.bare) (n:l.row.toRowW.promised) (call:WalkO q [] (XL q []) (InK K) l.row.toRowW d [] λf o=>PySem.call f o):l.Holds:=
 holds_law a λz=>holds_open (left (boot_open c g h) le i j) (InK.of b) InK.keeps (λs e=>xl_of s (au.mp e).1) XL.keeps a1 a2 a3 (λs e=>recFacts_of (au.mp e).2) a4 z k m n call
end Tp
lay_quick Tp.said
name_quick tsaid for Tp.said by Tp.said_r
namespace Mk
open PySem PySem.Spec PyProof.Rows
abbrev mT:cu:=PySem.Challenge.rw_likebook_k44_days_gone_by.row.prog
def wQ:cu:=W.view mT [0,2,3,4,5,6,7,8,9,11,12,13,15,16,18,19,20,21,22,24,25,27,29,30,32,33,34,35,36,37,38,39,40,41,42,43,44,45,46,47,48,49,50,51,52,53,54,55,56,57,58,59]
def zI:List Addr:=bw 574
def rS:eu->Z5:=Tp.Ko mT 100000 zI
theorem MZ:Tp.PreEq mT W.boot_heap W.boot_drawn W.boot_toks:=by
 intro w os
 kernel_rfl
theorem BJ:Tp.RunA mT wQ PySem.Challenge.rw_likebook_k44_days_gone_by.row.records W.boot_heap W.boot_drawn W.boot_toks 100000:=by
 rw[PySem.W.Fast.truna_eq];intro w os
 kernel_rfl
theorem BK:Tp.RunB mT zI rS W.boot_heap W.boot_drawn W.boot_toks 100000:=by
 rw[PySem.W.Fast.trunb_eq];intro w os
 kernel_rfl
theorem M1:Tp.j' mT wQ PySem.Challenge.rw_likebook_k44_days_gone_by.row.records zI rS W.boot_heap W.boot_drawn W.boot_toks 100000:=Tp.tS BJ BK
end Mk
namespace L2
open PySem PySem.Spec PyProof.Rows
abbrev Key:=Sum Int Str
def vM:Key->Value->Bool
 |.inl k,v=>Value.isInt k v
 |.inr x,v=>Value.isStrOf x v
def BL (w:World):Key->Int
 |.inl k=>hashInt k
 |.inr x=>hashStr w x
theorem oW:∀{k:Key} {v:Value},vM k v=Z7->(∃i t,k=Sum.inl i/\v=Value.int i t)\/(∃x t,k=Sum.inr x/\v=Value.str x t)
 |.inl i,v,h=>by obtain⟨t,e⟩:=Value.isInt_shape h;exact .inl ⟨i,t,rfl,e⟩
 |.inr x,v,h=>by obtain⟨t,e⟩:=Value.isStrOf_shape h;exact .inr ⟨x,t,rfl,e⟩
theorem M3 (i:Int)(t:Tok):vM (.inl i) (.int i t)=true:=by simp[vM,Value.isInt]
theorem M6 (x:Str)(t:Tok):vM (.inr x) (.str x t)=true:=by simp[vM,Value.isStrOf]
theorem M' (a b:Int):decide ((Sum.inl a:Key)=Sum.inl b)=(a==b):=by grind
theorem Na (a b:Str):decide ((Sum.inr a:Key)=Sum.inr b)=decide (a=b):=by grind
theorem Nb (a:Int)(b:Str):decide ((Sum.inl a:Key)=Sum.inr b)=false:=ub (λq=>nomatch q)
theorem Nc (a:Str)(b:Int):decide ((Sum.inr a:Key)=Sum.inl b)=false:=ub (λq=>nomatch q)
def gT (prog:cu)(w:World):PySem.KeyKind prog w Key where
 is:=vM
 hash:=BL w
 inj:=λv a b ha hb=>by
  rcases oW ha with⟨i,t,rfl,rfl⟩|⟨x,t,rfl,rfl⟩
  .rcases oW hb with⟨j,u,rfl,e⟩|⟨y,u,rfl,e⟩
   .injection e with e1 _;rw[e1]
   .exact nomatch e
  .rcases oW hb with⟨j,u,rfl,e⟩|⟨y,u,rfl,e⟩
   .exact nomatch e
   .injection e with e1 _;rw[e1]
 byValue:=λk v h=>by rcases oW h with⟨i,t,rfl,rfl⟩|⟨x,t,rfl,rfl⟩<;>rfl
 pyHash:=λhv h=>by
  rcases oW hv with⟨i,t,rfl,rfl⟩|⟨x,t,rfl,rfl⟩
  .exact wpAny_pyHash_int h
  .exact wpAny_pyHash_str h
 eqBool:=λhu hv h=>by
  rcases oW hu with⟨i,t,rfl,rfl⟩|⟨x,t,rfl,rfl⟩
  .rcases oW hv with⟨j,u,rfl,rfl⟩|⟨y,u,rfl,rfl⟩
   .rw[M']at h;exact wpAny_eqBool_int h
   .rw[Nb]at h;exact SeqAt.EqAt.int_str i t y u _ _ _ _ h
  .rcases oW hv with⟨j,u,rfl,rfl⟩|⟨y,u,rfl,rfl⟩
   .rw[Nc]at h;exact SeqAt.EqAt.str_int x t j u _ _ _ _ h
   .rw[Na]at h;exact wpAny_eqBool_str h
 «strs»:=λk x t v h=>by
  rcases oW h with⟨i,u,rfl,e⟩|⟨y,u,rfl,e⟩
  .exact nomatch e
  .injection e with e1 _;subst e1;cases v<;>rfl
theorem Nd (prog:cu)(w:World)(i:Int)(t:Tok):(gT prog w).is (.inl i) (.int i t)=true:=M3 i t
theorem Nf (prog:cu)(w:World)(x:Str)(t:Tok):(gT prog w).is (.inr x) (.str x t)=true:=M6 x t
inductive V where
 |aO|bl (b:Bool)|int (i:Int)|str (x:Str)|ref (a:Addr)|ty (n:String)
 deriving DecidableEq
def RelV:V->Value->Prop
 |.aO,u=>u=Value.none
 |.bl b,u=>u=Value.bool b
 |.int i,u=>∃t,u=Value.int i t
 |.str x,u=>∃t,u=Value.str x t
 |.ref a,u=>u=ZS a
 |.ty n,u=>u=Value.type n
abbrev Vals:List V->List Value->Prop:=jv RelV
theorem Vals.length (r:Vals xs a):xs.length=a.length:=Paired.length r
theorem Vals.get:∀{a:List V} {b:List Value} {i:Nat} {x:V},Vals a b->a[i]?=Z9 x->∃u,b[i]?=Z9 u/\RelV x u
 |_,_,_,_,.nil,e=>by simp at e
 |_,_,0,_,.cons r _,e=>by simp at e;subst e;exact⟨_,rfl,r⟩
 |_,_,i+1,x,.cons _ t,e=>by obtain⟨u,c,d⟩:=Vals.get t (by simpa using e);exact⟨u,by simpa using c,d⟩
theorem Vals.set (r:RelV x u):∀{a:List V} {b:List Value} i,Vals a b->Vals (a.set i x) (b.set i u)
 |_,_,_,.nil=>.nil
 |_,_,0,.cons _ t=>.cons r t
 |_,_,i+1,.cons q t=>.cons q (Vals.set r i t)
theorem Vals.append {xs ys:List V}{a b:List Value}(h:Vals xs a)(s:Vals ys b):Vals (xs++ys) (a++b):=by
 induction h with
 |nil=>exact s
 |cons r t i=>exact .cons r i
theorem Vals.take:∀{xs:List V} {a:List Value} n,Vals xs a->Vals (xs.take n) (a.take n)
 |_,_,0,_=>.nil
 |_,_,_+1,.nil=>.nil
 |_,_,n+1,.cons r t=>.cons r (Vals.take n t)
theorem Vals.drop:∀{a:List V} {b:List Value} n,Vals a b->Vals (a.drop n) (b.drop n)
 |_,_,0,r=>r
 |_,_,_+1,.nil=>.nil
 |_,_,n+1,.cons _ t=>Vals.drop n t
def cA:Option V->Option Value->Prop
 |some v,Z9 u=>RelV v u
 |none,Z8=>True
 |_,_=>False
def KV {κ:Type}:List (κ×V)->List (κ×Value)->Prop:=jv λ(p:κ×V) (q:κ×Value)=>p.1=q.1/\RelV p.2 q.2
def kV:Key->V
 |.inl i=>.int i
 |.inr x=>.str x
inductive HO where
 |lst (xs:List V)
 |tup (xs:List V)
 |dK (kvs:List (Key×V))|dT (kvs:List (List Key×V))
 |set (S:Int->Bool) (n:Nat)
 |ins (C dx:Addr) (fs:List (Str×V))
 |own (x:Addr)
 |xd (fs:List (Str×V))
 |fV (o:Obj) (u:HO)
 |mU (ps:Array Value)
 |ext (φ:Heap->Prop)
abbrev Hp:=Addr->Option HO
def upd (H:Hp)(a:Addr)(o:HO):Hp:=λb=>if b=a then Z9 o else H b
theorem bF:upd H a o a=Z9 o:=by unfold upd;rw[tw rfl]
theorem aG (h:b≠a):upd H a o b=H b:=by unfold upd;rw[tx h]
theorem Ng {H:Hp}(h:H a=Z9 o)(c:H b=Z9 u)(d:o≠u):a≠b:=by grind
theorem bR {H:Hp}(h:H a=Z9 o)(c:H b=Z8):a≠b:=by intro e;subst e;rw[h]at c;cases c
def TupN (h:Heap)(a:Addr)(l:Array Value):Prop:=∃n,h.get? a=Z9 {cls:=.type "tuple",data:=.seq l n}
theorem TupN.tup {h:Heap}{a:Addr}{l:Array Value}(x:TupN h a l):IsTup h a l:=let⟨n,q⟩:=x;⟨_,q,rfl,n,rfl⟩
theorem TupN.new (h:Heap)(l:Array Value):TupN (h.push {cls:=.type "tuple",data:=.seq l}) h.objs.size l:=⟨_,bx _ rfl⟩
def Nh (h:Heap)(a:Addr)(l:Array Value):Prop:=∃o n,h.get? a=Z9 o/\o.cls=.type "tuple"/\o.dict=Z8/\o.data=.seq l n
section
variable (P:cu)(w:World)
def z1b (H:Hp)(h:Heap)(a:Addr):HO->Prop
 |.lst xs=>xs.length<=ba/\∃(fC:List Value) (n:Nat),Vals xs fC/\h.get? a=Z9 {cls:=.type "list",data:=.seq fC.toArray n}
 |.tup xs=>xs.length<=ba/\∃fC:List Value,Vals xs fC/\TupN h a fC.toArray
 |.dK kvs=>kvs.length<=ba/\(a==jc)=Z6/\∃vs,KV kvs vs/\h.DictOf (gT P w) a vs
 |.dT kvs=>kvs.length<=ba/\(a==jc)=Z6/\∃xs:List (List Key×Addr×Value),
  jv (λ(p:List Key×V) (q:List Key×Addr×Value)=>p.1=q.1/\H q.2.1=Z9 (.tup (p.1.map kV))/\RelV p.2 q.2.2) kvs xs/\
  ∃o es ep,h.get? a=Z9 o/\o.ExactDict/\o.data=.dict es ep/\es.toList=xs.map (entryOfKey (mv (gT P w)))/\(xs.map (·.1)).Nodup
 |.set S n=>h.SetOf (intKind P w) a S n
 |.ins C dx fs=>H dx=Z9 (.own a)/\fs.length<=1000/\dx≠a/\h.get? a=Z9 (W.instObj C dx)/\∃mA,h.Ns1 dx mA/\(∀f,cA (fs.lookup f) (mA f))/\PySem.Within mA (fs.map (·.1))
 |.own _=>∃o,h.get? a=Z9 o
 |.xd fs=>∃mA,h.Ns1 a mA/\∀f,cA (fs.lookup f) (mA f)
 |.fV o u=>h.get? a=Z9 o/\z1b H h a u
 |.mU ps=>h.get? a=Z9 {cls:=.none,data:=.fields ps}
 |.ext φ=>φ h/\(∃o,h.get? a=Z9 o)/\∀h1 h2:Heap,φ h1->(∀o,h1.get? a=Z9 o->h2.get? a=Z9 o)->φ h2
def HOk (H:Hp)(h:Heap):Prop:=∀a o,H a=Z9 o->z1b P w H h a o
end
theorem z1b.lt (x:z1b P w H h a o):a<h.objs.size:=by
 cases o with
 |lst b=>obtain⟨_,_,_,_,e⟩:=x;exact bn e
 |tup b=>obtain⟨_,_,_,_,q⟩:=x;exact bn q
 |dK kvs=>obtain⟨_,_,_,_,o,_,_,e,_⟩:=x;exact bn e
 |dT kvs=>obtain⟨_,_,_,_,o,_,_,e,_⟩:=x;exact bn e
 |set S n=>obtain⟨o,_,_,_,e,_⟩:=x;exact bn e
 |ins C dx fs=>obtain⟨_,_,_,e,_⟩:=x;exact bn e
 |own y=>obtain⟨_,e⟩:=x;exact bn e
 |xd fs=>obtain⟨_,⟨_,_,_,e,_⟩,_⟩:=x;exact bn e
 |fV ob u=>obtain⟨e,_⟩:=x;exact bn e
 |mU ps=>exact bn x
 |ext c=>obtain⟨_,⟨_,e⟩,_⟩:=x;exact bn e
theorem Paired.wR {e g:Type}{F G:e->g->Prop}{c:List e}{d:List g}(h:jv F c d)(f:∀a b,F a b->G a b):jv G c d:=by
 induction h with
 |nil=>exact .nil
 |cons r t i=>exact .cons (f _ _ r) i
theorem z1b.stay (x:z1b P w H h a o)(k:∀b u,(b=a\/H b=Z9 (.own a))->h.get? b=Z9 u->h'.get? b=Z9 u)
  (m:∀b,H b=Z9 (.own a)->j b=Z9 (.own a)) (s:∀b f,H b=Z9 (.tup f)->j b=Z9 (.tup f)):z1b P w j h' a o:=by
 induction o with
 |lst f=>obtain⟨z,g,n,r,e⟩:=x;exact⟨z,g,n,r,k _ _ (.inl rfl) e⟩
 |tup f=>obtain⟨z,l,r,n,q⟩:=x;exact⟨z,l,r,n,k _ _ (.inl rfl) q⟩
 |dK kvs=>obtain⟨z,y,v,r,ob,es,ep,e,c⟩:=x;exact⟨z,y,v,r,ob,es,ep,k _ _ (.inl rfl) e,c⟩
 |dT kvs=>obtain⟨z,y,f,r,ob,es,ep,e,c⟩:=x;exact⟨z,y,f,Paired.wR r λp q z=>⟨z.1,s _ _ z.2.1,z.2.2⟩,ob,es,ep,k _ _ (.inl rfl) e,c⟩
 |set S n=>obtain⟨ob,es,ep,t,e,c⟩:=x;exact⟨ob,es,ep,t,k _ _ (.inl rfl) e,c⟩
 |ins C dx fs=>obtain⟨d,z,ne,e,i,⟨od,es,ep,A,c⟩,r⟩:=x;exact⟨m _ d,z,ne,k _ _ (.inl rfl) e,i,⟨od,es,ep,k _ _ (.inr d) A,c⟩,r⟩
 |own y=>obtain⟨ob,e⟩:=x;exact⟨ob,k _ _ (.inl rfl) e⟩
 |xd fs=>obtain⟨i,⟨od,es,ep,e,c⟩,r⟩:=x;exact⟨i,⟨od,es,ep,k _ _ (.inl rfl) e,c⟩,r⟩
 |fV ob u B=>obtain⟨e,q⟩:=x;exact⟨k _ _ (.inl rfl) e,B q⟩
 |mU ps=>have e:h.get? a=Z9 {cls:=.none,data:=.fields ps}:=x;exact k a _ (.inl rfl) e
 |ext D=>obtain⟨p,⟨o,e⟩,st⟩:=x;exact⟨st _ _ p λo q=>k _ _ (.inl rfl) q,⟨o,k _ _ (.inl rfl) e⟩,st⟩
theorem HOk.lt (x:HOk P w H h)(e:H a=Z9 o):a<h.objs.size:=(x a o e).lt
theorem HOk.fresh (x:HOk P w H h)(e:h.objs.size<=a):H a=none:=by
 cases q:H a with
 |none=>rfl
 |some u=>exact absurd (ci (x.lt q) e) (dm _)
theorem HOk.kept (x:HOk P w H h)(k:∀b u,h.get? b=Z9 u->c.get? b=Z9 u):HOk P w H c:=λa o e=>(x a o e).stay (λb u _ q=>k b u q) (λ_ q=>q) λ_ _ q=>q
theorem HOk.laid (x:HOk P w H h)(k:∀b u,h.get? b=Z9 u->d.get? b=Z9 u)(g:h.objs.size<=a)(new:z1b P w (upd H a o) d a o):HOk P w (upd H a o) d:=λb u e=>by
 have hn:=x.fresh g;by_cases f:b=a
 .subst f;rw[bF]at e;cases e;exact new
 .rw[aG f]at e;exact(x b u e).stay (λc v _ q=>k c v q) (λc q=>by rw[aG (bR q hn)];exact q) λc i q=>by rw[aG (bR q hn)];exact q
def Rd (H:Hp)(a:Addr)(u:HO):Prop:=H a=Z9 u\/∃o,H a=Z9 (.fV o u)
theorem Rd.ok (r:Rd H a u)(x:HOk P w H h):z1b P w H h a u:=by
 rcases r with r|⟨o,r⟩
 .exact x a u r
 .obtain⟨_,q⟩:=x a _ r;exact q
def Mut:Option HO->Prop
 |some (.lst _)=>True
 |some (.dK _)=>True
 |some (.dT _)=>True
 |some (.set _ _)=>True
 |some (.ins _ _ _)=>True
 |some (.ext _)=>True
 |_=>False
theorem HOk.write (ok:HOk P w H h)(f:Mut (H x))(l:e=x\/H e=Z9 (.own x))(k:∀b u,b≠e->h.get? b=Z9 u->i.get? b=Z9 u)(j:∃u,i.get? e=Z9 u)
  (new:z1b P w (upd H x m) i x m):HOk P w (upd H x m) i:=λb u q=>by
 have d:∀c y,H c=Z9 (.own y)->c≠x:=λc y r z=>by subst z;rw[r]at f;exact f
 by_cases g:b=x
 .subst g;rw[bF]at q;cases q;exact new
 .rw[aG g]at q;by_cases a:b=e
  .have n:H b=Z9 (.own x):=by
    rcases l with z|z
    .exact absurd (a.trans z) g
    .rw[a];exact z
   rw[q]at n;cases n;obtain⟨v,p⟩:=j;exact⟨v,by rw[a];exact p⟩
  .refine(ok b u q).stay (λc v hc r=>k c v ?_ r) (λc r=>by rw[aG (d c b r)];exact r) λc o r=>by rw[aG ((λc o r z=>by subst z;rw[r]at f;exact f) c o r)];exact r
   rcases hc with rfl|hc
   .exact a
   .rintro rfl
    rcases l with z|z
    .exact d c b hc z
    .rw[hc]at z;cases z;exact g rfl
structure Un (fs ex:List Addr)(H H':Hp)(h h':Heap):Prop where
 keep:∀b o,h.get? b=Z9 o->H b=Z8->b∉fs->b∉ex->h'.get? b=Z9 o
 slot:∀b o,h.get? b=Z9 o->H b=Z8->b∈fs->b∉ex->∃sl,h'.get? b=Z9 {o with slots:=sl}
 free:∀b o,h.get? b=Z9 o->H b=Z8->b∉ex->H' b=Z8
 there:∀b o,h.get? b=Z9 o->b∉ex->∃o',h'.get? b=Z9 o'
 cW:∀b xs,H b=Z9 (.tup xs)->H' b=Z9 (.tup xs)
 cJ:∀b o u,H b=Z9 (.fV o u)->H' b=Z9 (.fV o u)
 cX:∀b ps,H b=Z9 (.mU ps)->∃more,H' b=Z9 (.mU (ps++more))
theorem Un.any (u:Un fs ex H e h d)(q:h.get? b=Z9 ob)(n:H b=Z8)(a:b∉ex):∃sl,d.get? b=Z9 {ob with slots:=sl}:=by
 by_cases c:b∈fs
 .exact u.slot b ob q n c a
 .exact⟨ob.slots,u.keep b ob q n c a⟩
theorem Un.kept (k:∀b u,h.get? b=Z9 u->a.get? b=Z9 u):Un fs ex H H h a:=⟨λb ob q _ _ _=>k b ob q,λb ob q _ _ _=>⟨ob.slots,k b ob q⟩,λ_ _ _ n _=>n,λb ob q _=>⟨ob,k b ob q⟩,λ_ _ q=>q,λ_ _ _ q=>q,λ_ ps q=>⟨#[],by rw[q];simp⟩⟩
theorem Un.refl:Un fs ex H H h h:=Un.kept λ_ _ q=>q
theorem Un.laid (k:∀b u,h.get? b=Z9 u->c.get? b=Z9 u)(d:h.objs.size<=a)(hn:H a=Z8):Un fs ex H (upd H a o) h c where
 keep:=λb u q _ _ _=>k b u q
 slot:=λb u q _ _ _=>⟨u.slots,k b u q⟩
 free:=λb u q n _=>by rw[aG (cv (ci (bn q) d))];exact n
 there:=λb u q _=>⟨u,k b u q⟩
 cW:=λb e q=>by rw[aG (bR q hn)];exact q
 cJ:=λb u e q=>by rw[aG (bR q hn)];exact q
 cX:=λb ps q=>⟨#[],by rw[aG (bR q hn),q];simp⟩
theorem Un.write (c:Mut (H x))(j:e=x\/H e=Z9 (.own x))(k:∀b u,b≠e->h.get? b=Z9 u->f.get? b=Z9 u)(d:∃u,f.get? e=Z9 u):Un fs ex H (upd H x o) h f:=by
 have g:∀b,H b=Z8->b≠x:=λb n z=>by subst z;rw[n]at c;exact c
 have i:∀b,H b=Z8->b≠e:=λb n z=>by
  subst z;rcases j with r|r
  .exact g b n r
  .rw[n]at r;cases r
 have hm:∀b u,H b=Z9 u->¬Mut (Z9 u)->b≠x:=λb u q nm z=>by subst z;rw[q]at c;exact nm c
 refine⟨λb u q n _ _=>k b u (i b n) q,λb u q n _ _=>⟨u.slots,k b u (i b n) q⟩,λb u q n _=>by rw[aG (g b n)];exact n,λb u q _=>?_,λb l q=>by rw[aG (hm b _ q λz=>z)];exact q,λb u l q=>by rw[aG (hm b _ q λz=>z)];exact q,λb ps q=>⟨#[],by rw[aG (hm b _ q λz=>z),q];simp⟩⟩;by_cases a:b=e
 .subst a;exact d
 .exact⟨u,k b u a q⟩
def BM (h:Heap)(H:Hp):List Addr:=(bw h.objs.size).filter λa=>(H a).isSome
def kZ (h:Heap)(H:Hp):Heap:=W.hideAll h (BM h H)
theorem Ni (h:Heap)(H:Hp):(kZ h H).objs.size=h.objs.size:=W.hideAll_size _ _
theorem Nj (e:h.get? b=Z9 o)(n:H b=Z8):(kZ h H).get? b=Z9 o:=W.hideAll_get _ e λhm=>by have q:=(dn.mp hm).2;rw[n]at q;simp at q
theorem Nk (e:(kZ h H).get? b=Z9 o):h.get? b=Z9 o/\H b=none:=by
 have a:=W.of_hideAll (BM h H) e;refine⟨a,?_⟩;cases q:H b with
 |none=>rfl
 |some x=>have z:(kZ h H).get? b=none:=W.hideAll_none (BM h H) (dn.mpr ⟨dq.mpr (bn a),by simp[q]⟩);rw[z]at e;cases e
def zJ (g h:Heap)(L:Addr):List (Addr×Obj):=(bw h.objs.size).filterMap λa=>if a=L\/(g.get? a).isSome=Z7 then Z8 else(h.get? a).map λo=>(a,o)
theorem GQ (c:a≠L)(d:g.get? a=Z8)(b:h.get? a=Z9 o):(a,o)∈zJ g h L:=iz.mpr ⟨a,dq.mpr (bn b),by simp[c,d,b]⟩
theorem Nl (a:p∈zJ g h L):p.1≠L/\g.get? p.1=Z8/\h.get? p.1=Z9 p.2:=by
 obtain⟨b,_,e⟩:=iz.mp a;split at e
 .cases e
 .rename_i hn;cases q:h.get? b with
  |none=>rw[q]at e;simp at e
  |some u=>
   rw[q]at e;simp at e;subst e;refine⟨λz=>hn (.inl z),?_,q⟩;cases r:g.get? b with
   |none=>rfl
   |some v=>exact(hn (.inr (by simp[r]))).elim
theorem Nm:News g L h (zJ g h L):=λp d=>let⟨a,b,c⟩:=Nl d;⟨c,a,b⟩
structure Mod (K:Z5)(mg:Str->Option Value)(base:Heap):Prop where
 rT:K.In base
 glob:base.Ns bt mg
 blt:∃mb,base.Ns si mb/\∀x:Str,x≠"__name__"->mb x=dk x
 nolimit:base.NoLimit
structure Cx where
 prog:cu
 w:World
 K:Z5
 mg:Str->Option Value
 base:Heap
 A:gn
 N:List Str
 s₀:bb
 iB:Hp
 env:Env
 outer:List Env
 stack:List Env
 ex:List Addr
 fn:Str->Bool
 calm:Bool
 pn:List (Addr×Obj)
 xe:Value->bb->Prop
 fx:Option (Str×Value):=Z8
def frs (l:List Env):List Addr:=l.filterMap (·.frame)
abbrev Cx.fs (X:Cx):List Addr:=frs X.outer
def Vis (sc:Scope)(x:Str):Prop:=sc.names.lookup x=Z9 .local\/sc.names.lookup x=Z9 .cell\/sc.names.lookup x=Z9 .free
def Loc (sc:Scope)(x:Str):Prop:=sc.names.lookup x=Z9 .local\/sc.names.lookup x=Z9 .cell
def Look (env:Env)(h:Heap)(m:Str->Option Value)(x:Str)(u:Value):Prop:=(env.kindOf x=Z9 .local/\m x=Z9 u)\/((env.kindOf x=Z9 .cell\/env.kindOf x=Z9 .free)/\∃c,env.cells.lookup x=Z9 c/\h.IsCell c (Z9 u))
structure Cx.Ok (X:Cx):Prop where
 mod:Mod X.K X.mg X.base
 kind:X.env.scope.kind=.function
 glob:X.env.globals=bt
 blt:X.env.builtins=si
 above:X.s₀.heap.objs.size<=X.env.locals
 inj:∀x y c,X.env.cells.lookup x=Z9 c->X.env.cells.lookup y=Z9 c->x=y
 has:∀x,(X.env.kindOf x=Z9 .cell\/X.env.kindOf x=Z9 .free)->∃c,X.env.cells.lookup x=Z9 c
 rV:∀x c,X.fn x=Z7->X.env.cells.lookup x=Z9 c->X.s₀.heap.objs.size<=c
 hd:X.calm=Z7->X.A.handled=Z8
 frames:X.A.frames=Z9 X.stack
 tT:X.stack=X.outer\/(X.stack=X.env::X.outer/\X.env.frame=Z9 X.env.locals)
 kA:∀b∈X.ex,b≠X.env.locals/\∀x c,X.env.cells.lookup x=Z9 c->c≠b
 bs:∀b o,X.base.get? b=Z9 o->X.s₀.heap.get? b=Z9 o/\X.iB b=Z8
 kE:X.base.objs.size<=X.s₀.heap.objs.size
 iC:∀b o,X.base.get? b=Z9 o->b∉X.ex
 iD:∀b∈X.ex,b∉X.fs
 cK:X.s₀.heap.FunFrames X.base X.outer
 oX:∀b∈X.fs,X.iB b=Z8
 wU:∀x u,X.fx=Z9 (x,u)->x∉X.N/\X.env.scope.names.lookup x=Z9 .local
structure Inv (X:Cx)(pins:List (Addr×Obj))(σ:List (Option V))(H:Hp)(s:bb):Prop where
 ok:X.Ok
 os:s.os=X.s₀.os
 bare:lu s.gens
 base:Un X.fs X.ex X.iB H X.s₀.heap s.heap
 loc:∃m,s.heap.Ns X.env.locals m/\∀(i:Nat) (x:Str) (v:V),X.N[i]?=Z9 x->σ[i]?=Z9 (Z9 v)->Vis X.env.scope x->∃u,RelV v u/\Look X.env s.heap m x u
 cell:∀x c,X.env.cells.lookup x=Z9 c->∃v,s.heap.IsCell c v
 free:H X.env.locals=Z8
 bC:∀x c,X.env.cells.lookup x=Z9 c->H c=Z8
 pin:∀p∈X.pn++pins,s.heap.get? p.1=Z9 p.2/\H p.1=Z8/\p.1≠X.env.locals/\p.1∉X.fs/\∀v,p.2.data≠.cell v
 hok:HOk X.prog X.w H s.heap
 len:σ.length=X.N.length
 fx:∀x u,X.fx=Z9 (x,u)->∃m,s.heap.Ns X.env.locals m/\m x=Z9 u
section
variable {X:Cx}
theorem Cx.Ok.wV (ok:X.Ok)(e:X.base.get? b=Z9 o):b∉X.fs:=λa=>by have:=(ok.cK.mem a).1;rw[e]at this;cases this
theorem Inv.bs (I:Inv X a c H s):∀b o,X.base.get? b=Z9 o->s.heap.get? b=Z9 o/\H b=none:=λb o e=>⟨I.base.keep b o (I.ok.bs b o e).1 (I.ok.bs b o e).2 (I.ok.wV e) (I.ok.iC b o e),I.base.free b o (I.ok.bs b o e).1 (I.ok.bs b o e).2 (I.ok.iC b o e)⟩
theorem Inv.bk (I:Inv X a c H s):∀b o,X.base.get? b=Z9 o->s.heap.get? b=Z9 o:=λb o e=>(I.bs b o e).1
theorem Inv.mod (I:Inv X a b H s):Mod X.K X.mg X.base:=I.ok.mod
theorem Inv.cL (I:Inv X a b H s):X.K.In s.heap:=I.ok.mod.rT.keeps I.bk
theorem Inv.fr (I:Inv X a b H s):∃m,Fr X.base X.env.locals s.heap m:=
 let⟨m,hn,_⟩:=I.loc
 ⟨m,hn,I.bk,bj I.ok.kE I.ok.above⟩
theorem Inv.lt (I:Inv X a b H s):X.env.locals<s.heap.objs.size:=let⟨_,hn,_⟩:=I.loc;hn.lt
theorem Inv.sz (I:Inv X a b H s):X.s₀.heap.objs.size<=s.heap.objs.size:=bj I.ok.above (i0 I.lt)
theorem Inv.wW (I:Inv X b e H s)(h:s.heap.objs.size<=a):a∉X.fs:=λc=>by obtain⟨_,o,d,_⟩:=I.ok.cK.mem c;exact absurd (ci (bn d) (bj I.sz h)) (dm _)
theorem Inv.mF (I:Inv X d g H s):∀x c,X.env.cells.lookup x=Z9 c->c≠X.env.locals:=λx c e z=>by obtain⟨v,o,f,hd⟩:=I.cell x c e;obtain⟨m,⟨h,es,ep,a,b,_⟩,_⟩:=I.loc;rw[z,a]at f;cases f;rw[b]at hd;cases hd
theorem Inv.cK (I:Inv X d i H s):s.heap.FunFrames X.base X.outer:=by
 have all:∀l,(∀b∈frs l,b∈X.fs)->X.s₀.heap.FunFrames X.base l->s.heap.FunFrames X.base l:=by
  intro l
  induction l with
  |nil=>intro _ _;trivial
  |cons env r f=>
   rintro hs ⟨g,⟨L,o,hf,hn,h,hd⟩,hr⟩
   have a:=hs L (by unfold frs;rw[dt,hf];exact bg);obtain⟨sl,e⟩:=I.base.slot L o h (I.ok.oX L a) a λz=>I.ok.iD L z a;exact⟨g,⟨L,_,hf,hn,e,hd⟩,f (λb c=>hs b (by unfold frs;rw[dt,hf];exact bc _ c)) hr⟩
 exact all X.outer (λ_ c=>c) I.ok.cK
theorem Inv.stack (I:Inv X a b H s):s.heap.FunFrames X.base X.stack:=by
 rcases I.ok.tT with e|⟨e,hf⟩
 .rw[e];exact I.cK
 .rw[e];obtain⟨m,hn,_⟩:=I.loc;refine .cons (by rw[I.ok.kind];decide) hf hn ?_ I.cK;exact ig (bj I.ok.kE I.ok.above)
theorem Inv.gU (I:Inv X c d H s):∀b∈frs X.stack,b∈X.env.locals::X.fs:=λb a=>by
 rcases I.ok.tT with e|⟨e,hf⟩
 .rw[e]at a;simp_all
 .rw[e]at a;unfold frs at a;rw[dt,hf]at a;exact a
theorem Inv.gW (I:Inv X c f H s):∀b∈frs X.stack,H b=none:=λb a=>by
 rcases bq.mp (I.gU b a)with e|a
 .rw[e];exact I.free
 .obtain⟨_,o,d,_⟩:=I.ok.cK.mem a;exact I.base.free b o d (I.ok.oX b a) λz=>I.ok.iD b z a
theorem Inv.step {ch:List Addr}(I:Inv X y L H s)
  (f:∀b∈ch,(b∈X.ex\/X.s₀.heap.objs.size<=b)/\b≠X.env.locals/\(∀x c,X.env.cells.lookup x=Z9 c->c≠b)/\∀p∈X.pn++y,p.1≠b)
  (keep:∀b o,b≠X.env.locals->b∉X.fs->b∉ch->s.heap.get? b=Z9 o->H b=Z8->h'.get? b=Z9 o)
  (slot:∀b o,b≠X.env.locals->b∈X.fs->b∉ch->s.heap.get? b=Z9 o->H b=Z8->∃sl,h'.get? b=Z9 {o with slots:=sl}) (free:∀b o,b∉ch->s.heap.get? b=Z9 o->H b=Z8->H' b=Z8)
  (there:∀b o,b∉ch->s.heap.get? b=Z9 o->∃D,h'.get? b=Z9 D)
  (cW:∀b A,H b=Z9 (.tup A)->H' b=Z9 (.tup A)) (cJ:∀b o u,H b=Z9 (.fV o u)->H' b=Z9 (.fV o u)) (cX:∀b ps,H b=Z9 (.mU ps)->∃E,H' b=Z9 (.mU (ps++E)))
  (ns:∀m,s.heap.Ns X.env.locals m->h'.Ns X.env.locals m) (hok:HOk X.prog X.w H' h') (M:lu g'):
  Inv X y L H' {s with heap:=h',gens:=g',drawn:=d',toks:=t'}:=by
 have F:∀b o,X.s₀.heap.get? b=Z9 o->b≠X.env.locals:=λb o e=>cv (ci (bn e) I.ok.above)
 have j:∀b o,X.s₀.heap.get? b=Z9 o->b∉X.ex->b∉ch:=λb o e a B=>by
  rcases(f b B).1 with z|z
  .exact a z
  .exact absurd (ci (bn e) z) (dm _)
 have g:∀x c,X.env.cells.lookup x=Z9 c->∀v,s.heap.IsCell c v->h'.IsCell c v:=λx c e v ⟨o,C,hd⟩=>by
  have h:=λz=>(f c z).2.2.1 x c e rfl;by_cases hc:c∈X.fs
  .obtain⟨sl,q⟩:=slot c o (I.mF x c e) hc h C (I.bC x c e);exact⟨_,q,hd⟩
  .exact⟨o,keep c o (I.mF x c e) hc h C (I.bC x c e),hd⟩
 refine⟨I.ok,I.os,M,⟨λb o e n B a=>?_,λb o e n B a=>?_,λb o e n a=>?_,λb o e a=>?_,λb A e=>cW b A (I.base.cW b A e),λb o A e=>cJ b o A (I.base.cJ b o A e),λb ps e=>?_⟩,?_,λx c e=>?_,?_,λx c e=>?_,λp K=>?_,hok,I.len,λx u e=>let⟨m,hn,q⟩:=I.fx x u e;⟨m,ns m hn,q⟩⟩
 .exact keep b o (F b o e) B (j b o e a) (I.base.keep b o e n B a) (I.base.free b o e n a)
 .obtain⟨sl,t⟩:=I.base.slot b o e n B a;obtain⟨J,G⟩:=slot b _ (F b o e) B (j b o e a) t (I.base.free b o e n a);exact⟨J,G⟩
 .obtain⟨D,t⟩:=I.base.there b o e a;exact free b D (j b o e a) t (I.base.free b o e n a)
 .obtain⟨D,t⟩:=I.base.there b o e a;exact there b D (j b o e a) t
 .obtain⟨N,t⟩:=I.base.cX b ps e;obtain⟨O,G⟩:=cX b _ t;exact⟨N++O,by rw[G,qc]⟩
 .obtain⟨m,hn,P⟩:=I.loc;refine⟨m,ns m hn,λi x v t G Q=>?_⟩;obtain⟨u,r,l⟩:=P i x v t G Q;refine⟨u,r,?_⟩;rcases l with l|⟨k,c,e,z⟩
  .exact .inl l
  .exact .inr ⟨k,c,e,g x c e _ z⟩
 .obtain⟨v,z⟩:=I.cell x c e;exact⟨v,g x c e v z⟩
 .obtain⟨m,⟨o,_,_,C,_⟩,_⟩:=I.loc;exact free _ o (λz=>(f _ z).2.1 rfl) C I.free
 .obtain⟨v,o,C,hd⟩:=I.cell x c e;exact free c o (λz=>(f c z).2.2.1 x c e rfl) C (I.bC x c e)
 .obtain⟨e,n,ne,nf,d⟩:=I.pin p K;have h:=λz=>(f p.1 z).2.2.2 p K rfl;exact⟨keep p.1 p.2 ne nf h e n,free p.1 p.2 h e n,ne,nf,d⟩
theorem Inv.un (I:Inv X a j H s)(u:Un X.fs [] H h s.heap h')(hok:HOk X.prog X.w h h'):Inv X a j h {s with heap:=h',toks:=t'}:=by obtain⟨m,⟨o,es,ep,i,r⟩,_⟩:=id I.loc;obtain⟨sl,k⟩:=u.any i I.free (by simp);exact I.step (ch:=[]) (λ_ z=>nomatch z) (λb o _ d _ e n=>u.keep b o e n d (by simp)) (λb o _ d _ e n=>u.slot b o e n d (by simp)) (λb o _ e n=>u.free b o e n (by simp)) (λb o _ e=>u.there b o e (by simp)) u.cW u.cJ u.cX (λp ⟨q,f,g,c,l⟩=>by rw[i]at c;cases c;exact⟨_,f,g,k,l⟩) hok I.bare
theorem Inv.call (I:Inv X a q H s)(u:Un (frs X.stack) ch H j s.heap k)(hok:HOk X.prog X.w j k)(t:lu v)
  (d:∀b∈ch,(b∈X.ex\/X.s₀.heap.objs.size<=b)/\b≠X.env.locals/\(∀x c,X.env.cells.lookup x=Z9 c->c≠b)/\∀p∈X.pn++a,p.1≠b):
  Inv X a q j {s with heap:=k,gens:=v,drawn:=d',toks:=t'}:=by
 obtain⟨m,⟨o,es,ep,l,r⟩,_⟩:=id I.loc;obtain⟨sl,g⟩:=u.any l I.free λz=>(d _ z).2.1 rfl;exact I.step d (λb o g y hc e n=>u.keep b o e n (λz=>(bq.mp (I.gU b z)).elim g y) hc) (λb o _ _ hc e n=>u.any e n hc) (λb o hc e n=>u.free b o e n hc) (λb o hc e=>u.there b o e hc) u.cW u.cJ u.cX (λB ⟨C,h,i,f,A⟩=>by rw[l]at f;cases f;exact⟨_,h,i,g,A⟩) hok t
theorem Inv.turned (I:Inv X a g H s)(k:∀b o,b≠it->s.heap.get? b=Z9 o->h'.get? b=Z9 o)(hn:H it=Z8)(f:it≠X.env.locals)
  (h:it∈X.ex\/X.s₀.heap.objs.size<=it) (i:∀x c,X.env.cells.lookup x=Z9 c->c≠it) (j:∀p∈X.pn++a,p.1≠it):Inv X a g H {s with heap:=h',toks:=t'}:=by
 have d:∀b u,H b=Z9 u->b≠it:=λb u e z=>by rw[z,hn]at e;cases e
 refine I.step (ch:=[it]) (λb l=>?_) (λb o _ _ hc e _=>k b o (λz=>hc (by simp[z])) e) (λb o _ _ hc e _=>⟨o.slots,k b o (λz=>hc (by simp[z])) e⟩) (λ_ _ _ _ n=>n) (λb o hc e=>⟨o,k b o (λz=>hc (by simp[z])) e⟩) (λ_ _ e=>e) (λ_ _ _ e=>e) (λb ps e=>⟨#[],by rw[e];simp⟩) (λm hm=>?_) (λb u e=>?_) I.bare
 .have e:b=it:=by simpa using l
  subst e;exact⟨h,f,i,j⟩
 .obtain⟨o,es,ep,t,r⟩:=hm;exact⟨o,es,ep,k _ o (Ne.symm f) t,r⟩
 .refine(I.hok b u e).stay (λc v hc q=>k c v ?_ q) (λ_ q=>q) λ_ _ q=>q;rcases hc with z|z
  .rw[z];exact d b u e
  .exact d c _ z
theorem Inv.tok (I:Inv X a b H s)(t:Nat):Inv X a b H {s with toks:=t}:=I.un (h':=s.heap) (t':=t) Un.refl I.hok
theorem Inv.kept (I:Inv X a c H s)(k:∀b u,s.heap.get? b=Z9 u->d.get? b=Z9 u):Inv X a c H {s with heap:=d,toks:=t'}:=I.un (Un.kept k) (I.hok.kept k)
theorem Inv.laid (I:Inv X c f H s)(k:∀b u,s.heap.get? b=Z9 u->e.get? b=Z9 u)(d:s.heap.objs.size<=a)(new:z1b X.prog X.w (upd H a o) e a o): Inv X c f (upd H a o) {s with heap:=e,toks:=t'}:=I.un (Un.laid k d (I.hok.fresh d)) (I.hok.laid k d new)
theorem Inv.write (I:Inv X a h H s)(f:Mut (H x))(g:e=x\/H e=Z9 (.own x))(k:∀b u,b≠e->s.heap.get? b=Z9 u->d.get? b=Z9 u)(c:∃u,d.get? e=Z9 u) (new:z1b X.prog X.w (upd H x o) d x o):Inv X a h (upd H x o) {s with heap:=d,toks:=t'}:=I.un (Un.write f g k c) (I.hok.write f g k c new)
theorem Inv.weak (I:Inv X a c H s)(d:b.length=c.length)(w:∀(i:Nat) v,b[i]?=Z9 (Z9 v)->c[i]?=Z9 (Z9 v)):Inv X a b H s:=⟨I.ok,I.os,I.bare,I.base,let⟨m,hn,Nn⟩:=I.loc;⟨m,hn,λi x v e f g=>Nn i x v e (w i v f) g⟩,I.cell,I.free,I.bC,I.pin,I.hok,d.trans I.len,I.fx⟩
theorem Inv.gX (I:Inv X a b H s)(h:∀p∈rW,s.heap.get? p.1=Z9 p.2/\H p.1=Z8/\p.1≠X.env.locals/\p.1∉X.fs/\∀v,p.2.data≠.cell v):Inv X rW b H s:=⟨I.ok,I.os,I.bare,I.base,I.loc,I.cell,I.free,I.bC,λp c=>(bu.mp c).elim (λz=>I.pin p (ey _ z)) (h p),I.hok,I.len,I.fx⟩
theorem Np {h:Heap}(x:h.Ns a m)(y:h.Ns a g)(n:Str):m n=g n:=by obtain⟨o,es,ep,e,d,_,f⟩:=x;obtain⟨l,i,j,b,c,_,k⟩:=y;rw[e]at b;cases b;rw[d]at c;cases c;rw[<-f n,k n]
theorem zK {N:List Str}(hN:N.Nodup){j:Nat}(a:N[i]?=Z9 x)(b:N[j]?=Z9 x):i=j:=by obtain⟨e,c⟩:=ax.mp a;obtain⟨f,d⟩:=ax.mp b;exact(List.getElem_inj hN).mp (c.trans d.symm)
theorem z4z (I:Inv X P σ H s)(hN:X.N.Nodup)(L:X.N[i]?=Z9 x)(l:Loc X.env.scope x)(r:RelV v u)
  (h:∀s',Inv X P (σ.set i (Z9 v)) H s'->(∃a,gq a s.heap s'.heap/\(a=X.env.locals\/X.env.cells.lookup x=Z9 a))->Q () s') (hf:X.fn x=Z7\/X.env.scope.names.lookup x=Z9 .local:=by first|exact .inl rfl|exact .inr rfl|assumption):wpAny M A (storeName X.env x u) Q E s:=by
 obtain⟨m,hn,hl⟩:=id I.loc;have C:i<σ.length:=I.len▸(ax.mp L).1;have mF:=I.mF
 have f:∀{a:Addr} {O:Heap},(∃o,s.heap.get? a=Z9 o/\H a=Z8)->gq a s.heap O->HOk X.prog X.w H O:=λ{a O} ha hs b ob e=>by
  obtain⟨_,_,t⟩:=ha;refine(I.hok b ob e).stay (λc W hc q=>(hs.2 c ?_).trans q) (λ_ q=>q) λ_ _ q=>q
  rintro rfl
  rcases hc with rfl|hc
  .rw[t]at e;cases e
  .rw[t]at hc;cases hc
 rcases l with D|D
 .refine wpAny_storeName_local D hn (λO R hs=>?_) (by rw[I.ok.kind];rfl);obtain⟨oL,_,_,Nq,_⟩:=id hn;refine h _ ⟨I.ok,I.os,I.bare,⟨λb o e n F l=>?_,λb o e n F l=>?_,I.base.free,λb o e l=>?_,I.base.cW,I.base.cJ,I.base.cX⟩,⟨_,R,λj y v' g B e3=>?_⟩,λy c e=>?_,I.free,I.bC,λp hp=>?_,f ⟨oL,Nq,I.free⟩ hs,by simpa using I.len,λy u e=>by obtain⟨m',G,q⟩:=I.fx y u e;refine⟨_,R,?_⟩;have hy:y≠x:=λz=>(I.ok.wU y u e).1 (z▸aq L);have:=Np hn G y;simp[hy,this,q]⟩ ⟨_,hs,.inl rfl⟩
  .exact(hs.2 b (cv (ci (bn e) I.ok.above))).trans (I.base.keep b o e n F l)
  .obtain⟨sl,g⟩:=I.base.slot b o e n F l;exact⟨sl,(hs.2 b (cv (ci (bn e) I.ok.above))).trans g⟩
  .obtain⟨o',g⟩:=I.base.there b o e l;exact⟨o',(hs.2 b (cv (ci (bn e) I.ok.above))).trans g⟩
  .by_cases J:j=i
   .subst J;rw[L]at g;cases g;rw[cq C]at B;cases B;exact⟨u,r,.inl ⟨D,by simp⟩⟩
   .rw[b9 (Ne.symm J)]at B;obtain⟨u',r',q⟩:=hl j y v' g B e3;refine⟨u',r',?_⟩;rcases q with⟨k,e⟩|⟨k,c,e,z⟩
    .refine .inl ⟨k,?_⟩;have:y≠x:=λe=>J (zK hN g (e▸L));simp[this,e]
    .exact .inr ⟨k,c,e,z.sameBut hs (mF y c e)⟩
  .obtain⟨W,z⟩:=I.cell y c e;exact⟨W,z.sameBut hs (mF y c e)⟩
  .obtain⟨e,n,ne,nf,d⟩:=I.pin p hp;exact⟨(hs.2 p.1 ne).trans e,n,ne,nf,d⟩
 .have K:X.fn x=true:=by
   rcases hf with z|z
   .exact z
   .rw[z]at D;cases D
  obtain⟨c,hc⟩:=I.ok.has x (.inl D);obtain⟨W,z⟩:=I.cell x c hc;refine wpAny_storeName_cell I.ok.kind D hc z (λO S hs=>?_);obtain⟨oc,T,U⟩:=id z;refine h {s with heap:=O} ⟨I.ok,I.os,I.bare,⟨λb o e n F l=>?_,λb o e n F l=>?_,I.base.free,λb o e l=>?_,I.base.cW,I.base.cJ,I.base.cX⟩,⟨m,hn.sameBut hs (Ne.symm (mF x c hc)),λj y v' g B e3=>?_⟩,λy Y e=>?_,I.free,I.bC,λp hp=>?_,f ⟨oc,T,I.bC x c hc⟩ hs,by simpa using I.len,λy u e=>let⟨m',G,q⟩:=I.fx y u e;⟨m',G.sameBut hs (Ne.symm (mF x c hc)),q⟩⟩ ⟨c,hs,.inr hc⟩
  .exact(hs.2 b (cv (ci (bn e) (I.ok.rV x c K hc)))).trans (I.base.keep b o e n F l)
  .obtain⟨sl,g⟩:=I.base.slot b o e n F l;exact⟨sl,(hs.2 b (cv (ci (bn e) (I.ok.rV x c K hc)))).trans g⟩
  .obtain⟨o',g⟩:=I.base.there b o e l;exact⟨o',(hs.2 b (cv (ci (bn e) (I.ok.rV x c K hc)))).trans g⟩
  .by_cases J:j=i
   .subst J;rw[L]at g;cases g;rw[cq C]at B;cases B;exact⟨u,r,.inr ⟨.inl D,c,hc,S⟩⟩
   .rw[b9 (Ne.symm J)]at B;obtain⟨u',r',q⟩:=hl j y v' g B e3;refine⟨u',r',?_⟩;rcases q with q|⟨k,Y,e,z'⟩
    .exact .inl q
    .refine .inr ⟨k,Y,e,z'.sameBut hs ?_⟩
     rintro rfl
     exact J (zK hN g (I.ok.inj _ _ _ e hc▸L))
  .by_cases V:Y=c
   .subst V;exact⟨_,S⟩
   .obtain⟨w2,z2⟩:=I.cell y Y e;exact⟨w2,z2.sameBut hs V⟩
  .obtain⟨e,n,ne,nf,d⟩:=I.pin p hp;refine⟨(hs.2 p.1 ?_).trans e,n,ne,nf,d⟩;intro q;rw[q,T]at e;exact d W (tz e▸U)
theorem z6i (I:Inv X a c H s)(hN:X.N.Nodup)(d:X.N[i]?=Z9 x)(e:Loc X.env.scope x)(r:RelV v u)
  (h:∀b,Inv X a (c.set i (Z9 v)) H b->Q () b) (hf:X.fn x=Z7\/X.env.scope.names.lookup x=Z9 .local:=by first|exact .inl rfl|exact .inr rfl|assumption):wpAny M A (storeName X.env x u) Q E s:=
 z4z I hN d e r (λb f _=>h b f) hf
theorem Inv.call' (I:Inv X a g H s)(h:d.os=s.os)(u:Un (frs X.stack) i H f s.heap d.heap)(hok:HOk X.prog X.w f d.heap)(j:lu d.gens)
  (e:∀b∈i,(b∈X.ex\/X.s₀.heap.objs.size<=b)/\b≠X.env.locals/\(∀x c,X.env.cells.lookup x=Z9 c->c≠b)/\∀p∈X.pn++a,p.1≠b):Inv X a g f d:=by
 obtain⟨k,l,m,n,o⟩:=d;subst h;exact I.call u hok j e
end
abbrev XK:=Value->Option Addr->Hp->Prop
abbrev St:=List (Option V)
abbrev VK:=V->Hp->Prop
abbrev TE:=St->Hp->VK->Prop
abbrev TT:=St->Hp->(Bool->Hp->Prop)->Prop
abbrev TA:=St->Hp->(List V->Hp->Prop)->Prop
structure Ends where
 nx:St->Hp->Prop
 rt:VK
 bk:St->Hp->Prop:=λ_ _=>False
 ct:St->Hp->Prop:=λ_ _=>False
abbrev TS:=Ends->St->Hp->Prop
def EP (X:Cx)(pins:List (Addr×Obj))(σ:St)(Q:VK)(u:Value)(s':bb):Prop:=∃v H',Inv X pins σ H' s'/\RelV v u/\Q v H'
def TP (X:Cx)(pins:List (Addr×Obj))(σ:St)(Q:Bool->Hp->Prop)(b:Bool)(s':bb):Prop:=∃H',Inv X pins σ H' s'/\Q b H'
def AP (X:Cx)(pins:List (Addr×Obj))(σ:St)(Q:List V->Hp->Prop)(us:List Value)(s':bb):Prop:=∃vs H',Inv X pins σ H' s'/\Vals vs us/\Q vs H'
def SP (X:Cx)(pins:List (Addr×Obj))(D:Ends)(f:Flow)(s':bb):Prop:=
 match f with
 |.next=>∃σ' H',Inv X pins σ' H' s'/\D.nx σ' H'
 |.brk=>∃σ' H',Inv X pins σ' H' s'/\D.bk σ' H'
 |.cont=>∃σ' H',Inv X pins σ' H' s'/\D.ct σ' H'
 |.ret u=>∃v σ' H',Inv X pins σ' H' s'/\RelV v u/\D.rt v H'
def PE (X:Cx)(e:Expr)(t:TE):Prop:=∀(pins:List (Addr×Obj)) (s:bb) (σ:St) (H:Hp) (Q:VK),Inv X pins σ H s->t σ H Q->wpAny (model X.prog X.w) X.A (eval e X.env) (EP X pins σ Q) X.xe s
def PT (X:Cx)(e:Expr)(t:TT):Prop:=∀(pins:List (Addr×Obj)) (s:bb) (σ:St) (H:Hp) (Q:Bool->Hp->Prop),Inv X pins σ H s->t σ H Q->wpAny (model X.prog X.w) X.A (rh e X.env (eval e X.env)) (TP X pins σ Q) X.xe s
def PW (X:Cx)(e:Expr)(t:TT):Prop:=∀(whole:Sem Value) (pins:List (Addr×Obj)) (s:bb) (σ:St) (H:Hp) (Q:Bool->Hp->Prop),Inv X pins σ H s->t σ H Q->wpAny (model X.prog X.w) X.A (rh e X.env whole) (TP X pins σ Q) X.xe s
theorem PW.pt (h:PW X e t):PT X e t:=h _
def PA (X:Cx)(es:List Expr)(t:TA):Prop:=∀(pos:Pos) (pins:List (Addr×Obj)) (s:bb) (σ:St) (H:Hp) (Q:List V->Hp->Prop),Inv X pins σ H s->t σ H Q->wpAny (model X.prog X.w) X.A (spliced (jn pos (dj es X.env))) (AP X pins σ Q) X.xe s
def PS (X:Cx)(st:Stmt)(t:TS):Prop:=∀(pins:List (Addr×Obj)) (s:bb) (σ:St) (H:Hp) (D:Ends),Inv X pins σ H s->t D σ H->wpAny (model X.prog X.w) X.A (exec st X.env) (SP X pins D) X.xe s
def PSs (X:Cx)(st:List Stmt)(t:TS):Prop:=∀(pins:List (Addr×Obj)) (s:bb) (σ:St) (H:Hp) (D:Ends),Inv X pins σ H s->t D σ H->wpAny (model X.prog X.w) X.A (execs st X.env) (SP X pins D) X.xe s
theorem aM (h:wpAny M A t Q E s)(b:∀a s,Q a s->c a s):wpAny M A t c E s:=ez h b λ_ _ x=>x
theorem bin (m:PE X a n)(o:PE X b p){R:V->V->Hp->Prop}(I:Inv X c e H s)(h:n e H fun x k=>p e k fun y d=>R x y d)
  {l:Type} {Q:l->bb->Prop} {f:Value->Value->Sem l}
  (hf:∀v u j x y d,Inv X c e d j->RelV x v->RelV y u->R x y d->wpAny (model X.prog X.w) X.A (f v u) Q X.xe j):
  wpAny (model X.prog X.w) X.A (eval a X.env) (λv g=>wpAny (model X.prog X.w) X.A (eval b X.env) (λu i=>wpAny (model X.prog X.w) X.A (f v u) Q X.xe i) X.xe g) X.xe s:=by
 exact aM (m c s e H _ I h) λv q ⟨x,k,r,t,z⟩=>aM (o c q e k _ r z) λu j ⟨y,d,B,C,D⟩=>hf v u j x y d B t C D
def tU (i:Nat):TE:=λσ H Q=>∃v,σ[i]?=Z9 (Z9 v)/\Q v H
def tC (v:V):TE:=λ_ H Q=>Q v H
theorem wY (hN:X.N[i]?=Z9 x)(j:Vis X.env.scope x)(hd:Xv x:=by decide)(g:(x==("__classdict__":Str))=false:=by decide):PE X (.Name x pos) (tU i):=by
 rintro f s k H Q I ⟨v,e,h⟩
 obtain⟨m,hn,n⟩:=I.loc;obtain⟨u,r,l⟩:=n i x v hN e j;have b:EP X f k Q u s:=⟨v,H,I,r,h⟩;rcases l with⟨d,hm⟩|⟨d,c,hc,a⟩
 .exact qd (oq I.ok.kind d hn hm b) hd
 .rcases d with d|d
  .exact qd (wpAny_loadName_cell I.ok.kind d hc a b) hd
  .exact qd (wpAny_loadName_free I.ok.kind d hc a b g) hd
theorem Nr {i j pos}:PE X (.Constant (.int i) j pos) (tC (.int i)):=λ_ _ _ H _ I h=>wpAny_Constant_int ⟨.int i,H,I.tok _,⟨_,rfl⟩,h⟩
theorem Nt {b j pos}:PE X (.Constant (.bool b) j pos) (tC (.bl b)):=λ_ _ _ H _ I h=>Constant_bool ⟨.bl b,H,I,rfl,h⟩
theorem Nu {j pos}:PE X (.Constant .none j pos) (tC .aO):=λ_ _ _ H _ I h=>pz ⟨.aO,H,I,rfl,h⟩
theorem GS {x j pos}:PE X (.Constant (.str x) j pos) (tC (.str x)):=λ_ _ _ H _ I h=>Calls.Constant_str ⟨.str x,H,I.tok _,⟨_,rfl⟩,h⟩
def Gl (X:Cx)(x:Str):Prop:=X.env.kindOf x=Z9 .globalImplicit
theorem z44 (I:Inv X a c H s)(b:Gl X x)(hm:X.mg x=Z9 u)(h:Q u s)
  (hd:Xv x:=by decide):wpAny (model X.prog X.w) X.A (eval (.Name x pos) X.env) Q E s:=
 jd I.ok.kind b (mw (I.ok.glob▸I.mod.glob.keeps I.bk) hm h) hd
theorem z2p (I:Inv X a f H s)(b:Gl X x)(hm:X.mg x=Z8)(c:dk x=Z9 u)(h:Q u s)
  (hn:x≠"__name__":=by decide) (hd:Xv x:=by decide):wpAny (model X.prog X.w) X.A (eval (.Name x pos) X.env) Q E s:=by
 obtain⟨g,d,e⟩:=I.mod.blt;exact jd I.ok.kind b (Calls.loadGlobal_builtin (I.ok.glob▸I.mod.glob.keeps I.bk) hm (I.ok.blt▸d.keeps I.bk) ((e x hn).trans c) h) hd
theorem Nv (a:Gl X x)(hm:X.mg x=Z8)(b:dk x=Z9 u)(r:RelV v u)(hn:x≠"__name__":=by decide)(hd:Xv x:=by decide):PE X (.Name x pos) (tC v):=λ_ _ _ H _ I h=>z2p I a hm b ⟨v,H,I,r,h⟩ hn hd
def PC (X:Cx)(op:CmpOp)(a b:Expr)(t:TE):Prop:=∀(pins:List (Addr×Obj)) (s:bb) (σ:St) (H:Hp) (Q:VK),Inv X pins σ H s->t σ H Q->wpAny (model X.prog X.w) X.A (eval a X.env) (λv BN=>wpAny (model X.prog X.w) X.A (eval b X.env) (λu BO=>wpAny (model X.prog X.w) X.A (dz op v u) (EP X pins σ Q) X.xe BO) X.xe BN) X.xe s
theorem GU (b:Expr)(h:a≠.In)(c:a≠.NotIn):d6 a b=false:=by
 have d:(a==CmpOp.In)=false:=by cases a<;>first|rfl|exact absurd rfl h
 have e:(a==CmpOp.NotIn)=false:=by cases a<;>first|rfl|exact absurd rfl c
 cases b<;>simp[d6,d,e]
def pM (ta:TE):TE:=λσ H Q=>ta σ H λx H1=>Q (.bl (decide (x=.aO))) H1
def zL (ta:TE):TE:=λσ H Q=>ta σ H λx H1=>Q (.bl (!decide (x=.aO))) H1
theorem RelV.iE (r:RelV x v):(v==Value.none)=decide (x=.aO):=by
 cases x with
 |aO=>cases r;rfl
 |bl _=>cases r;rfl
 |int _=>obtain⟨t,rfl⟩:=r;rfl
 |str _=>obtain⟨t,rfl⟩:=r;rfl
 |ref _=>cases r;rfl
 |ty _=>cases r;rfl
theorem zM {j b}(d:PE X a e):PC X .Is a (.Constant .none j b) (pM e):=by intro c s f H Q I h;exact aM (d c s f H _ I h) λv m ⟨x,g,i,k,l⟩=>pz (is_none_gen ⟨.bl _,g,i,by rw[k.iE];rfl,l⟩)
theorem zN {j b}(d:PE X a e):PC X .IsNot a (.Constant .none j b) (zL e):=by intro c s f H Q I h;exact aM (d c s f H _ I h) λv m ⟨x,g,i,k,l⟩=>pz (isnot_none_gen ⟨.bl _,g,i,by rw[k.iE];rfl,l⟩)
def tB (t:TE):TT:=λσ H Q=>t σ H λx H1=>∃c,x=.bl c/\Q c H1
theorem zO (h:PC X d a b t)(e:d6 d b=false:=by first|exact GU _ dc dc|rfl):PE X (.Compare a [d] [b] pos) t:=λc s f H Q I g=>wpAny_Compare1 (h c s f H Q I g) e
theorem zP (h:PC X g a b t)(f:d6 g b=false:=by first|exact GU _ dc dc|rfl):PT X (.Compare a [g] [b] pos) (tB t):=by
 intro e s i H Q I j;refine on (aM (h e s i H _ I j) λv p f=>aM f λu r k=>aM k ?_) f
 rintro c w ⟨x,l,m,n,o⟩
 obtain⟨d,rfl,q⟩:=o;cases n;exact gb ⟨l,m,q⟩
def wZ (t u:TT):TT:=λσ H Q=>t σ H λc H1=>if c=Z7 then u σ H1 Q else Q Z6 H1
def GV (t u:TT):TT:=λσ H Q=>t σ H λc H1=>if c=Z7 then Q Z7 H1 else u σ H1 Q
def xb (t:TT):TT:=λσ H Q=>t σ H λc H1=>Q (!c) H1
theorem GW (d:PT X a f):PW X (.BoolOp .And [a] pos) f:=by
 intro wh b s g H Q I h;refine isTrue_and (aM (d b s g H Q I h) λc i e=>?_);cases c with
 |true=>exact isTrue_and_nil e
 |false=>exact e
theorem GX (d:PT X a f):PW X (.BoolOp .Or [a] pos) f:=by
 intro wh b s g H Q I h;refine isTrue_or (aM (d b s g H Q I h) λc i e=>?_);cases c with
 |false=>exact isTrue_or_nil e
 |true=>exact e
theorem BP (k:PT X a l)(m:PW X (.BoolOp .And (b::rest) pos) e):PW X (.BoolOp .And (a::b::rest) pos) (wZ l e):=by
 intro wh d s f H Q I h;refine isTrue_and (aM (k d s f H _ I h) λc n ⟨g,i,j⟩=>?_);cases c with
 |true=>exact m wh d n f g Q i j
 |false=>exact⟨g,i,j⟩
theorem BQ (k:PT X a l)(m:PW X (.BoolOp .Or (b::rest) pos) e):PW X (.BoolOp .Or (a::b::rest) pos) (GV l e):=by
 intro wh d s f H Q I h;refine isTrue_or (aM (k d s f H _ I h) λc n ⟨g,i,j⟩=>?_);cases c with
 |true=>exact⟨g,i,j⟩
 |false=>exact m wh d n f g Q i j
theorem GY (d:PT X a e):PT X (.UnaryOp .Not a pos) (xb e):=by intro b s f H Q I h;exact isTrue_not (d b s f H (λc g=>Q (!c) g) I h)
def GZ (ta tb:TE):TE:=λσ H Q=>ta σ H λx H1=>∃c,x=.bl c/\if c=Z7 then tb σ H1 Q else Q (.bl Z6) H1
def BS (ta tb:TE):TE:=λσ H Q=>ta σ H λx H1=>∃c,x=.bl c/\if c=Z7 then Q (.bl Z7) H1 else tb σ H1 Q
theorem BU {c}(h:PE X a t):PE X (.BoolOp c [a] pos) t:=λb s d H Q I e=>BoolOp_one (h b s d H Q I e)
theorem BV (j:PE X a k)(l:PE X (.BoolOp .And (b::rest) pos) m):PE X (.BoolOp .And (a::b::rest) pos) (GZ k m):=by
 intro d s f H Q I h;refine BoolOp_and (aM (j d s f H _ I h) ?_)
 rintro v n ⟨x,g,i,o,e⟩
 obtain⟨c,rfl,e⟩:=e;cases o;refine gb ?_;cases c with
 |true=>exact l d n f g Q i e
 |false=>exact⟨.bl Z6,g,i,rfl,e⟩
theorem Nw (j:PE X a k)(l:PE X (.BoolOp .Or (b::rest) pos) m):PE X (.BoolOp .Or (a::b::rest) pos) (BS k m):=by
 intro d s f H Q I h;refine BoolOp_or (aM (j d s f H _ I h) ?_)
 rintro v n ⟨x,g,i,o,e⟩
 obtain⟨c,rfl,e⟩:=e;cases o;refine gb ?_;cases c with
 |false=>exact l d n f g Q i e
 |true=>exact⟨.bl Z7,g,i,rfl,e⟩
def G0 (t:TT)(ta tb:TE):TE:=λσ H Q=>t σ H λc H1=>if c=Z7 then ta σ H1 Q else tb σ H1 Q
theorem G1 (hc:PT X c l)(m:PE X a n)(o:PE X b p):PE X (.IfExp c a b pos) (G0 l n p):=by
 intro e s f H Q I h;refine wpAny_IfExp (aM (hc e s f H _ I h) λd g ⟨i,j,k⟩=>?_);cases d with
 |true=>exact m e g f i Q j k
 |false=>exact o e g f i Q j k
def SqL (K:Z5)(H:Hp)(a:Addr)(xs:List V):Prop:=Rd H a (.lst xs)\/∃(o:Obj) (fC:Array Value) (n:Nat),K.lookup a=Z9 o/\o.cls=.type "list"/\o.dict=Z8/\o.data=.seq fC n/\fC.size<=ba/\Vals xs fC.toList
def dD (K:Z5)(H:Hp)(a:Addr)(xs:List V):Prop:=Rd H a (.tup xs)\/∃(o:Obj) (fC:Array Value) (n:Nat),K.lookup a=Z9 o/\o.cls=.type "tuple"/\o.dict=Z8/\o.data=.seq fC n/\fC.size<=ba/\Vals xs fC.toList
def BW:Value->Option V
 |.none=>Z9 .aO
 |.bool b=>Z9 (.bl b)
 |.int i _=>Z9 (.int i)
 |.str x _=>Z9 (.str x)
 |.ref a=>Z9 (.ref a)
 |.type n=>Z9 (.ty n)
 |_=>Z8
theorem RelV.abs (r:RelV x u):BW u=Z9 x:=by
 cases x with
 |aO=>cases r;rfl
 |bl _=>cases r;rfl
 |int _=>obtain⟨t,rfl⟩:=r;rfl
 |str _=>obtain⟨t,rfl⟩:=r;rfl
 |ref _=>cases r;rfl
 |ty _=>cases r;rfl
theorem RelV.inj (r:RelV x u)(q:RelV y u):x=y:=tz (r.abs.symm.trans q.abs)
theorem Vals.inj {a b:List V}{c:List Value}(h:Vals a c)(g:Vals b c):a=b:=by
 induction h generalizing b with
 |nil=>cases g;rfl
 |cons r t i=>
  cases g with
  |cons d e=>rw[r.inj d,i e]
theorem SqL.of {K:Z5}(h:H a=Z9 (.lst b)):SqL K H a b:=.inl (.inl h)
theorem dD.of {K:Z5}(h:H a=Z9 (.tup b)):dD K H a b:=.inl (.inl h)
theorem Inv.list (I:Inv X c σ H s)(h:SqL X.K H a xs):∃b,Vals xs b/\PlainL s.heap a b.toArray/\xs.length<=ba:=by
 rcases h with h|⟨o,b,n,d,hc,hd,hs,f,r⟩
 .obtain⟨z,b,n,r,e⟩:=h.ok I.hok;exact⟨b,r,⟨_,n,e,rfl,rfl,rfl⟩,z⟩
 .refine⟨b.toList,r,⟨o,n,I.cL a o d,hc,hd,by simpa using hs⟩,?_⟩;have e:=r.length;simp at e;omega
theorem Inv.tuple (I:Inv X c σ H s)(h:dD X.K H a d):∃b,Vals d b/\IsTup s.heap a b.toArray/\d.length<=ba:=by
 rcases h with h|⟨o,b,n,f,hc,_,hs,g,r⟩
 .obtain⟨z,b,r,p⟩:=h.ok I.hok;exact⟨b,r,p.tup,z⟩
 .refine⟨b.toList,r,⟨o,I.cL a o f,hc,n,by simpa using hs⟩,?_⟩;have e:=r.length;simp at e;omega
theorem Inv.tV (I:Inv X b d H s)(h:dD X.K H a c):∃l,Vals c l/\Nh s.heap a l.toArray/\c.length<=ba:=by
 rcases h with h|⟨o,l,n,q,hc,hd,hs,e,r⟩
 .obtain⟨z,l,r,n,q⟩:=h.ok I.hok;exact⟨l,r,⟨_,n,q,rfl,rfl,rfl⟩,z⟩
 .exact⟨l.toList,r,⟨o,n,I.cL a o q,hc,hd,(by simpa using hs)⟩,(by have w:=r.length;simp at w;omega)⟩
theorem Inv.mV (I:Inv X f p H s)(h:SqL X.K H a j)(k:SqL X.K H a l):j=l:=by
 obtain⟨c,r,⟨o,n,e,_,_,d⟩,_⟩:=I.list h;obtain⟨b,m,⟨q,t,g,_,_,i⟩,_⟩:=I.list k;rw[e]at g;cases g;rw[d]at i;injection i with d1 _;have:c=b:=by simpa using congrArg Array.toList d1
 subst this;exact r.inj m
theorem Inv.lB (I:Inv X f p H s)(h:dD X.K H a j)(k:dD X.K H a l):j=l:=by
 obtain⟨c,r,⟨o,e,_,n,d⟩,_⟩:=I.tuple h;obtain⟨b,m,⟨q,g,_,t,i⟩,_⟩:=I.tuple k;rw[e]at g;cases g;rw[d]at i;injection i with d1 _;have:c=b:=by simpa using congrArg Array.toList d1
 subst this;exact r.inj m
abbrev Cx.fW (X:Cx)(E:Value->bb->Prop):Cx:={X with xe:=E}
abbrev Cx.xg (X:Cx):Cx:=X.fW λ_ _=>False
theorem Cx.Ok.fW {X:Cx}(ok:X.Ok)(E:Value->bb->Prop):(X.fW E).Ok:=⟨ok.mod,ok.kind,ok.glob,ok.blt,ok.above,ok.inj,ok.has,ok.rV,ok.hd,ok.frames,ok.tT,ok.kA,ok.bs,ok.kE,ok.iC,ok.iD,ok.cK,ok.oX,ok.wU⟩
theorem Cx.Ok.cY {X:Cx}(ok:(X.fW E).Ok):X.Ok:=⟨ok.mod,ok.kind,ok.glob,ok.blt,ok.above,ok.inj,ok.has,ok.rV,ok.hd,ok.frames,ok.tT,ok.kA,ok.bs,ok.kE,ok.iC,ok.iD,ok.cK,ok.oX,ok.wU⟩
theorem Inv.fW (I:Inv X a b H s)(E:Value->bb->Prop):Inv (X.fW E) a b H s:=⟨I.ok.fW E,I.os,I.bare,I.base,I.loc,I.cell,I.free,I.bC,I.pin,I.hok,I.len,I.fx⟩
theorem Inv.cY (I:Inv (X.fW E) a b H s):Inv X a b H s:=⟨I.ok.cY,I.os,I.bare,I.base,I.loc,I.cell,I.free,I.bC,I.pin,I.hok,I.len,I.fx⟩
theorem SP.cY (h:SP (X.fW E) c D f d):SP X c D f d:=by
 cases f with
 |next=>obtain⟨a,b,I,q⟩:=h;exact⟨a,b,I.cY,q⟩
 |brk=>obtain⟨a,b,I,q⟩:=h;exact⟨a,b,I.cY,q⟩
 |cont=>obtain⟨a,b,I,q⟩:=h;exact⟨a,b,I.cY,q⟩
 |ret u=>obtain⟨v,a,b,I,r,q⟩:=h;exact⟨v,a,b,I.cY,r,q⟩
theorem PSs.xg {st:List Stmt}(h:PSs X.xg st t):PSs X st t:=λa s b H D I c=>ez (h a s b H D (I.fW _) c) (λ_ _ q=>q.cY) λ_ _ z=>False.elim z
section
variable {X:Cx}{st:Stmt}{rest:List Stmt}{t u:TS}
def G2:TS:=λD σ H=>D.nx σ H
def xh (t u:TS):TS:=λD σ H=>t {D with nx:=u D} σ H
theorem G3:PSs X [] G2:=λ_ _ a H _ I h=>lm ⟨a,H,I,h⟩
theorem G4 (c:PS X st t)(d:PSs X rest u):PSs X (st::rest) (xh t u):=by
 intro a s e H D I h;refine wpAny_execs_cons (aM (c a s e H {D with nx:=u D} I h) λf g q=>?_);cases f with
 |next=>obtain⟨b,i,j,q⟩:=q;exact d a g b i D j q
 |ret v=>exact q
 |brk=>exact q
 |cont=>exact q
theorem Inv.quiet (I:Inv X a b H s):interactive X.env=false:=by simp[interactive,I.ok.kind]
def tW (te:TE):TS:=λD σ H=>te σ H λ_ H1=>D.nx σ H1
theorem Ny (c:PE X e te)(hs:jk e Z8 pos.line X.env=pure false:=by rfl):PS X (.Expr e pos) (tW te):=by intro a s b H D I h;exact wpAny_Expr_any (aM (c a s b H _ I h) λv i ⟨x,d,f,j,g⟩=>⟨b,d,f,g⟩) I.quiet hs
def xj (te:TE):TS:=λD σ H=>te σ H D.rt
theorem BX (c:PE X e te):PS X (.Return (Z9 e) pos) (xj te):=by intro a s b H D I h;exact wpAny_Return_some (aM (c a s b H _ I h) λv j ⟨x,d,f,g,i⟩=>⟨x,b,d,f,g,i⟩)
def xl (c:TT)(t u:TS):TS:=λD σ H=>c σ H λb H1=>if b=Z7 then t D σ H1 else u D σ H1
theorem G5 (hc:PT X c tc)(l:PSs X a t)(m:PSs X b u):PS X (.If c a b pos) (xl tc t u):=by
 intro e s f H D I h;refine wpAny_If (aM (hc e s f H _ I h) λd g ⟨i,j,k⟩=>?_);cases d with
 |true=>exact l e g f i D j k
 |false=>exact m e g f i D j k
end
abbrev TG:=V->St->Hp->(St->Hp->Prop)->Prop
abbrev vN:=List V->St->Hp->(St->Hp->Prop)->Prop
def PG (X:Cx)(target:Expr)(t:TG):Prop:=∀(pins:List (Addr×Obj)) (s:bb) (σ:St) (H:Hp) (v:V) (u:Value) (Q:St->Hp->Prop),Inv X pins σ H s->RelV v u->t v σ H Q->wpAny (model X.prog X.w) X.A (qe target X.env u) (λ_ s'=>∃σ' H',Inv X pins σ' H' s'/\Q σ' H') X.xe s
def PGs (X:Cx)(ts:List Expr)(t:vN):Prop:=∀(pins:List (Addr×Obj)) (s:bb) (σ:St) (H:Hp) (vs:List V) (us:List Value) (Q:St->Hp->Prop),Inv X pins σ H s->Vals vs us->t vs σ H Q->wpAny (model X.prog X.w) X.A (assignInOrder ((gm ts X.env).map (·.2)) us) (λ_ s'=>∃σ' H',Inv X pins σ' H' s'/\Q σ' H') X.xe s
abbrev BY:=V->V->V->Hp->(Hp->Prop)->Prop
def BZ (X:Cx)(t:BY):Prop:=∀(pins:List (Addr×Obj)) (s:bb) (σ:St) (H:Hp) (o i v:V) (ov iv u:Value) (Q:Hp->Prop),Inv X pins σ H s->RelV o ov->RelV i iv->RelV v u->t o i v H Q->wpAny (model X.prog X.w) X.A (setItem ov iv u) (λ_ s'=>∃H',Inv X pins σ H' s'/\Q H') X.xe s
def rX (i:Nat):TG:=λv σ H Q=>Q (σ.set i (Z9 v)) H
theorem B1 (hN:X.N.Nodup)(b:X.N[i]?=Z9 x)(c:Loc X.env.scope x)(hf:X.fn x=Z7\/X.env.scope.names.lookup x=Z9 .local:=by first|exact .inl rfl|exact .inr rfl|assumption):PG X (.Name x pos) (rX i):=by intro a s e H v u Q I r h;exact qj (z6i I hN b c r (λf d=>⟨_,H,d,h⟩) hf)
def B2:vN:=λvs σ H Q=>vs=[]/\Q σ H
def Nz (t:TG)(u:vN):vN:=λvs σ H Q=>∃v r,vs=v::r/\t v σ H λσ' H'=>u r σ' H' Q
theorem NA:PGs X [] B2:=by
 rintro a s b H c d Q I r ⟨rfl,h⟩
 cases r;exact assignInOrder_nil ⟨b,H,I,h⟩
theorem zhn (c:PG X e t)(d:PGs X es u)
  (hs:(gm (e::es) X.env).map (·.2)=qe e X.env::(gm es X.env).map (·.2):=by rfl):PGs X (e::es) (Nz t u):=by
 rintro a s f H l m Q I r ⟨v,n,rfl,h⟩
 cases r with
 |cons r rr=>rw[hs];refine assignInOrder_cons (aM (c a s f H _ _ _ I r h) λ_ g ⟨b,i,j,k⟩=>?_);exact d a g b i _ _ Q j rr k
def B3 (K:Z5)(n:Nat)(t:vN):TG:=λv σ H Q=>∃a xs,v=.ref a/\dD K H a xs/\xs.length=n/\t xs σ H Q
theorem zrd (hc:X.calm=Z7)(h:PGs X es t)
  (hn:(gm es X.env).length=n:=by rfl) (d:(gm es X.env).findIdx? (·.1)=none:=by rfl):PG X (.Tuple es k pos) (B3 X.K n t):=by
 rintro c s f H v u Q I r ⟨a,i,rfl,j,l,m⟩
 cases r;obtain⟨p,g,q,z⟩:=I.tuple j;refine assign_Tuple_tuple (I.ok.hd hc) q (by simp[hn,<-l,g.length]) d λw x=>?_;have y:Inv X c f H {s with heap:=w}:=I.kept λb o e=>x b o (cv (bn e)) e;exact h c _ f H i _ Q y (by simpa using g) m
def lC (te:TE)(g:TG):TS:=λD σ H=>te σ H λx H1=>g x σ H1 D.nx
theorem zri (d:PE X e te)(f:PG X b g)(hs:p5 [b] e pos.line X.env=pure false:=by rfl)(i:p7 [b] e X.env=pure none:=by rfl)
  (j:(gm [b] X.env).map (·.2)=[qe b X.env]:=by rfl):PS X (.Assign [b] e pos) (lC te g):=by
 intro a s c H D I h;refine wpAny_Assign_stores (aM (d a s c H _ I h) ?_) hs i
 rintro v k ⟨x,l,m,n,o⟩
 rw[j];exact aM (f a k c l x v _ m n o) λ_ p q=>q
theorem zd5 (hN:X.N.Nodup)(c:X.N[i]?=Z9 x)(d:Loc X.env.scope x)(f:PE X e te)(hs:jk e (Z9 (.Name x a)) pos.line X.env=pure false:=by rfl)(hf:X.fn x=Z7\/X.env.scope.names.lookup x=Z9 .local:=by first|exact .inl rfl|exact .inr rfl|assumption):
  PS X (.Assign [.Name x a] e pos) (lC te (rX i)):=by
 intro b s g H D I h;refine wpAny_Assign_Name (aM (f b s g H _ I h) ?_) hs
 rintro v o ⟨y,j,k,l,m⟩
 exact z6i k hN c d l (λp n=>⟨_,j,n,m⟩) hf
def G6 (c:TT)(tb:TS):TS:=λD σ H=>∃W:Nat->St->Hp->Prop,(∃m,W m σ H)/\∀m σ H,W m σ H->c σ H λb H1=>if b=Z7 then ∃N:St->Hp->Prop,(∀σ' H',N σ' H'->∃m',m'<m/\W m' σ' H')/\tb {D with nx:=N,ct:=N,bk:=D.nx} σ H1 else D.nx σ H1
theorem G7 (q:gc (model X.prog X.w) X.A X.env X.xe)(hc:PT X c tc)(y:PSs X g z):PS X (.While c g [] pos) (G6 tc z):=by
 rintro a s B H D I ⟨W,⟨C,E⟩,h⟩
 refine wpAny_While (codeAny_whileLoop (λn F=>∃i r,Inv X a i r F/\W n i r) ?_ C ⟨B,H,I,E⟩)
 rintro n G ⟨e,t,J,K⟩
 refine g9 q (aM (hc a G e t _ J (h n e t K)) λb L ⟨u,x,k⟩=>?_);cases b with
 |true=>
  obtain⟨N,hN,k⟩:=k;refine g9 q (aM (y a L e u _ x k) λf M l=>?_);cases f with
  |next=>obtain⟨d,j,m,n3⟩:=l;obtain⟨o,hm,p⟩:=hN d j n3;exact⟨o,hm,d,j,m,p⟩
  |cont=>obtain⟨d,j,m,n3⟩:=l;obtain⟨o,hm,p⟩:=hN d j n3;exact⟨o,hm,d,j,m,p⟩
  |brk=>exact l
  |ret v=>exact l
 |false=>exact lm ⟨e,u,x,k⟩
structure It where
 go:Nat->Hp->Prop
 gY:Nat->Hp->V->Hp->Prop
 stop:Nat->Hp->Prop
def FpOk (X:Cx)(pins:List (Addr×Obj))(H:Hp)(b:Addr):Prop:=H b=Z8/\b≠X.env.locals/\b∉X.fs/\(b∈X.ex\/X.s₀.heap.objs.size<=b)/\(∀x c,X.env.cells.lookup x=Z9 c->c≠b)/\∀p∈X.pn++pins,p.1≠b
theorem Inv.gZ (I:Inv X a h H s)(d:s.heap.objs.size<=b)(hn:f b=Z8):FpOk X a f b:=by
 refine⟨hn,Nat.ne_of_gt (ci I.lt d),I.wW d,.inr (bj I.sz d),λx c e z=>?_,λp g z=>?_⟩
 .obtain⟨v,q⟩:=I.cell x c e;exact absurd (ci q.lt (z▸d)) (dm _)
 .exact absurd (ci (bn (I.pin p g).1) (z▸d)) (dm _)
structure Turn (P:cu)(w:World)(K:Z5)(tg:Expr)(J:It)(fp:List Addr)(it:Addr)(tn:Nat->Heap->Prop):Prop where
 mem:it∈fp
 obj:∀i h,tn i h->∀b∈fp,∃o,h.get? b=Z9 o/\∀v,o.data≠.cell v
 keep:∀i h h',tn i h->(∀b∈fp,∀o,h.get? b=Z9 o->h'.get? b=Z9 o)->tn i h'
 item:∀(X:Cx),X.prog=P->X.w=w->X.K=K->X.calm=Z7->∀(i:Nat) (pins:List (Addr×Obj)) (s:bb) (σ:St) (H:Hp) (E:Value->bb->Prop),Inv X pins σ H s->(∀b∈fp,FpOk X pins H b)->tn i s.heap->J.go i H->wpAny (model P w) X.A (pyNext (.ref it)) (λr s1=>∃u,r=Z9 u/\wpAny (model P w) X.A (lq tg (.ref it) u) (λ_ s2=>∃x H',Inv X pins σ H' s2/\RelV x u/\J.gY i H x H'/\tn (i+1) s2.heap/\∀b∈fp,H' b=Z8) E s1) E s
 done:∀(X:Cx),X.prog=P->X.w=w->X.K=K->X.calm=Z7->∀(i:Nat) (pins:List (Addr×Obj)) (s:bb) (σ:St) (H:Hp) (E:Value->bb->Prop),Inv X pins σ H s->(∀b∈fp,FpOk X pins H b)->tn i s.heap->J.stop i H->wpAny (model P w) X.A (pyNext (.ref it)) (λr s1=>r=Z8/\Inv X pins σ H s1) E s
 self:∀(A:gn) (i:Nat) (s:bb) (Q:Value->bb->Prop) (E:Value->bb->Prop),tn i s.heap->Q (.ref it) s->wpAny (model P w) A (ri (.ref it)) Q E s
abbrev TI:=St->Hp->(It->Hp->Prop)->Prop
def xm (X:Cx)(pins:List (Addr×Obj))(σ:St)(tg:Expr)(R:It->Hp->Prop)(xn:Value)(s2:bb):Prop:=∃(it:Addr) (fp:List Addr) (tn:Nat->Heap->Prop) (J:It) (H':Hp),xn=.ref it/\Inv X pins σ H' s2/\Turn X.prog X.w X.K tg J fp it tn/\tn 0 s2.heap/\(∀b∈fp,FpOk X pins H' b)/\R J H'
def PI (X:Cx)(tg iter:Expr)(wi:TI):Prop:=∀(pins:List (Addr×Obj)) (s:bb) (σ:St) (H:Hp) (R:It->Hp->Prop),Inv X pins σ H s->wi σ H R->wpAny (model X.prog X.w) X.A (eval iter X.env) (λv s1=>wpAny (model X.prog X.w) X.A (ri v) (xm X pins σ tg R) X.xe s1) X.xe s
theorem zfs (b:s.heap.get? it=Z9 o)(hc:o.cls=.type n)(hd:o.data=.fields c)
  (hn:["enumerate","zip","dict_itemiterator","dict_reverseitemiterator","odict_iterator","itertools.zip_longest","itertools.pairwise"].contains n=Z6) (a:Q () s):wpAny M A (lq d (.ref it) u) Q E s:=by
 cases d<;>first
  |exact bv a
  |(cases u<;>first
   |exact bv a
   |(refine ah (wpAny_load b ?_)
     rw[hc,hd];show wpAny M A (if(["enumerate","zip","dict_itemiterator","dict_reverseitemiterator","odict_iterator","itertools.zip_longest","itertools.pairwise"].contains n&&c[0]?==Z9 (jw _))=Z7 then _ else _) Q E s;rw[tx (by intro h;rw[hn]at h;cases h)];exact bv a))
def B4 (K:Z5)(a:Addr):It:=⟨λi H=>∃xs x,SqL K H a xs/\xs[i]?=Z9 x,λi H x H'=>H'=H/\∀xs,SqL K H a xs->xs[i]?=Z9 x,λi H=>∃xs,SqL K H a xs/\xs.length<=i⟩
def G8 (K:Z5)(a:Addr):It:=⟨λi H=>∃xs x,dD K H a xs/\xs[i]?=Z9 x,λi H x H'=>H'=H/\∀xs,dD K H a xs->xs[i]?=Z9 x,λi H=>∃xs,dD K H a xs/\xs.length<=i⟩
def xo (lo:Int)(n:Nat):It:=⟨λi _=>i<n,λi H x H'=>H'=H/\x=.int (lo+i),λi _=>n<=i⟩
theorem G9 {K:Z5}(a it:Addr):Turn P w K tg (B4 K a) [it] it (λi h=>h.IsListIter it a i) where
 mem:=by simp
 obj:=λi h st b g=>by
  have e:b=it:=by simpa using g
  subst e;obtain⟨o,e,c,d⟩:=st;exact⟨o,e,λv z=>by rw[d]at z;cases z⟩
 keep:=λi h m st k=>st.at λo e=>k it (by simp) o e
 item:=by intro X n q r hc i f s L H E I hf st t;subst n q r;obtain⟨M,x,l,y⟩:=t;obtain⟨A,B,p,N⟩:=I.list l;obtain⟨u,hu,O⟩:=B.get y;obtain⟨C,D,Q,F,G,J⟩:=hf it (by simp);refine wpAny_pyNext_list_item st p.isList (by simpa using hu) λm j R=>?_;have S:Inv X f L H {s with heap:=m}:=I.turned (λb o g e=>(R.2 b g).trans e) C D F G J;obtain⟨o,e,c,d⟩:=id j;exact⟨u,rfl,zfs e c d dc ⟨x,H,S,O,⟨rfl,λV T=>by rw[I.mV T l];exact y⟩,j,λb g=>(hf b g).1⟩⟩
 done:=by intro X n q r hc i f s L H E I hf st t;subst n q r;obtain⟨M,l,y⟩:=t;obtain⟨A,B,p,N⟩:=I.list l;obtain⟨C,D,Q,F,G,J⟩:=hf it (by simp);have hl:=B.length;exact wpAny_pyNext_list_end (I.ok.hd hc) st p.isList (by grind) λm U=>⟨rfl,I.turned (λb o g e=>U b o g e) C D F G J⟩
 self:=λ_ _ _ _ _ st h=>wpAny_pyIter_listiter st h
theorem NB {K:Z5}(a it:Addr):Turn P w K tg (G8 K a) [it] it (λi h=>h.IsTupleIter it a i) where
 mem:=by simp
 obj:=λi h st b g=>by
  have e:b=it:=by simpa using g
  subst e;obtain⟨o,e,c,d⟩:=st;exact⟨o,e,λv z=>by rw[d]at z;cases z⟩
 keep:=λi h m st k=>st.at λo e=>k it (by simp) o e
 item:=by intro X n q r hc i f s L H E I hf st t;subst n q r;obtain⟨M,x,l,y⟩:=t;obtain⟨A,B,p,N⟩:=I.tuple l;obtain⟨u,hu,O⟩:=B.get y;obtain⟨C,D,Q,F,G,J⟩:=hf it (by simp);refine wpAny_pyNext_tuple_item st p (by simpa using hu) λm j R=>?_;have S:Inv X f L H {s with heap:=m}:=I.turned (λb o g e=>(R.2 b g).trans e) C D F G J;obtain⟨o,e,c,d⟩:=id j;exact⟨u,rfl,zfs e c d dc ⟨x,H,S,O,⟨rfl,λV T=>by rw[I.lB T l];exact y⟩,j,λb g=>(hf b g).1⟩⟩
 done:=by intro X n q r hc i f s L H E I hf st t;subst n q r;obtain⟨M,l,y⟩:=t;obtain⟨A,B,p,N⟩:=I.tuple l;obtain⟨C,D,Q,F,G,J⟩:=hf it (by simp);have hl:=B.length;exact wpAny_pyNext_tuple_end (I.ok.hd hc) st p (by grind) λm U=>⟨rfl,I.turned (λb o g e=>U b o g e) C D F G J⟩
 self:=λ_ _ _ _ _ st h=>wpAny_pyIter_tupleiter st h
theorem NC {K:Z5}(it:Addr)(f:Int)(n:Nat):Turn P w K J (xo f n) [it] it (λi h=>rj h it (f+(i:Nat)*1) ((n:Int)-(i:Nat)) 1) where
 mem:=by simp
 obj:=λi h st b c=>by
  have e:b=it:=by simpa using c
  subst e;exact⟨_,st,λv z=>by cases z⟩
 keep:=λi h g st k=>k it (by simp) _ st
 item:=by intro X u x y hc i a s A H E I hf st j;subst u x y;obtain⟨l,m,B,p,q,r⟩:=hf it (by simp);refine(Walks.range (prog:=X.prog) (w:=X.w) (I.ok.hd hc) it f 1 n).item i s _ _ j st λv g C D d kk=>?_;obtain⟨t,rfl⟩:=D;have F:Inv X a A H {s with heap:=g,toks:=C}:=I.turned (λb o c e=>kk b o (by simpa using c) e) l m p q r;refine⟨_,rfl,zfs d rfl rfl dc ⟨.int (f+i),H,F,⟨t,?_⟩,⟨rfl,rfl⟩,d,λb c=>(hf b c).1⟩⟩;rw[Int.mul_one]
 done:=by intro X u x y hc i a s A H E I hf st j;obtain⟨l,m,B,p,q,r⟩:=hf it (by simp);exact nk (I.ok.hd hc) st (by have:n<=i:=j;omega) λg G=>⟨rfl,I.turned (λb o c e=>G b o c e) l m p q r⟩
 self:=λ_ _ _ _ _ st h=>nl st h
def xp (K:Z5)(tl:TE):TI:=λσ H R=>tl σ H λx H1=>∃a,x=.ref a/\(∃xs,SqL K H1 a xs)/\R (B4 K a) H1
theorem G' (g:PE X l tl):PI X u l (xp X.K tl):=by
 intro c s i H R I h;refine aM (g c s i H _ I h) ?_
 rintro v f ⟨x,j,d,k,m⟩
 obtain⟨a,rfl,⟨w,n⟩,q⟩:=m;cases k;obtain⟨r,y,p,z⟩:=d.list n;refine mf p.isList (⟨f.heap.objs.size,[f.heap.objs.size],_,_,j,rfl,d.kept λb o e=>am _ e,G9 a _,⟨_,bx _ rfl,rfl,rfl⟩,λb t=>?_,q⟩);have e:b=f.heap.objs.size:=by simpa using t
 subst e;exact d.gZ (ak _) (d.hok.fresh (ak _))
theorem zag {a:Int}(I:Inv X d g H s)(h:-(2 ^ 62)<=a)(i:a<2 ^ 62)(j:-(2 ^ 62)<=c)(k:c<2 ^ 62)
  (q:R (xo a (c-a).toNat) H):wpAny (model X.prog X.w) X.A (ri (.ref s.heap.objs.size)) (xm X d g p R) E {s with heap:=s.heap.push {cls:=.type "range",data:=.fields #[.int a t,.int c u,.int 1 v]},toks:=tk}:=by
 refine qf (IsRange.new ..) (small_one h i j k) ?_;have f:Inv X d g H {s with heap:=s.heap.push {cls:=.type "range",data:=.fields #[.int a t,.int c u,.int 1 v]},toks:=tk}:=I.kept λb o e=>am _ e;refine⟨(s.heap.push {cls:=.type "range",data:=.fields #[.int a t,.int c u,.int 1 v]}).objs.size,[(s.heap.push {cls:=.type "range",data:=.fields #[.int a t,.int c u,.int 1 v]}).objs.size],_,_,H,rfl,f.kept λb o e=>am _ e,NC _ a (c-a).toNat,?_,λb l=>?_,q⟩
 .have m:a+((0:Nat):Int)*1=a:=by simp
  have n:(((c-a).toNat:Nat):Int)-((0:Nat):Int)=j3 a c 1:=by rw[rangeSize_one];split<;>omega
  rw[m,n];exact bx _ rfl
 .have e:b=(s.heap.push {cls:=.type "range",data:=.fields #[.int a t,.int c u,.int 1 v]}).objs.size:=by simpa using l
  subst e;exact f.gZ (ak _) (f.hok.fresh (ak _))
def ND (ta:TA):TI:=λσ H R=>ta σ H λvs H1=>∃j:Int,vs=[.int j]/\-(2 ^ 62)<=j/\j<2 ^ 62/\R (xo 0 j.toNat) H1
def NF (ta:TA):TI:=λσ H R=>ta σ H λvs H1=>∃i j:Int,vs=[.int i,.int j]/\(-(2 ^ 62)<=i/\i<2 ^ 62/\-(2 ^ 62)<=j/\j<2 ^ 62)/\R (xo i (j-i).toNat) H1
theorem NG (d:Gl X "range")(hm:X.mg "range"=Z8)(e:PA X [a] f)(hs:dj [a] X.env=[(Z6,eval a X.env)]:=by rfl):PI X tg (.Call (.Name "range" p) [a] [] pos) (ND f):=by
 intro b s g H R I h;refine Call_ (z2p I d hm sj (PyProof.Rows.callWith_type1 (aM (e pos b s g H _ I h) λm n ⟨o,u,i,k,c⟩=>?_) hs rfl));obtain⟨j,rfl,c,l,q⟩:=c;cases k with
 |cons r rr=>cases rr;obtain⟨t,rfl⟩:=r;exact call_range_1 (zag i (by omega) (by omega) c l (by simpa using q))
theorem zf6 (f:Gl X "range")(hm:X.mg "range"=Z8)(g:PA X [a,b] k)(hs:dj [a,b] X.env=[(Z6,eval a X.env),(Z6,eval b X.env)]:=by rfl)(c:dj [b] X.env=[(Z6,eval b X.env)]:=by rfl):
  PI X tg (.Call (.Name "range" p) [a,b] [] pos) (NF k):=by
 intro d s l H R I h;refine Call_ (z2p I f hm sj (PyProof.Rows.callWith_type1 (aM (g pos d s l H _ I h) λx y ⟨z,A,m,n,e⟩=>?_) (by rw[hs,c]) (by rw[c];rfl)));obtain⟨i,j,rfl,⟨e,o,u,v⟩,q⟩:=e;cases n with
 |cons r rr=>
  cases rr with
  |cons w rr=>cases rr;obtain⟨t,rfl⟩:=r;obtain⟨B,rfl⟩:=w;exact call_range_2 (zag m e o u v q)
def jF (wi:TI)(g:TG)(tb:TS):TS:=λD σ H=>wi σ H λJ H1=>∃W:Nat->Nat->St->Hp->Prop,(∃m,W 0 m σ H1)/\∀i m σ H,W i m σ H->(J.stop i H/\D.nx σ H)\/(J.go i H/\∃N:St->Hp->Prop,(∀σ' H',N σ' H'->∃m',m'<m/\W (i+1) m' σ' H')/\∀x H',J.gY i H x H'->g x σ H' λtX H2=>tb {D with nx:=N,ct:=N,bk:=D.nx} tX H2)
def z75 (fp:List Addr)(h:Heap):List (Addr×Obj):=fp.filterMap λb=>(h.get? b).map λo=>(b,o)
theorem vO (a:b∈c)(e:h.get? b=Z9 o):(b,o)∈z75 c h:=iz.mpr ⟨b,a,by rw[e];rfl⟩
theorem NH (a:p∈z75 c h):p.1∈c/\h.get? p.1=Z9 p.2:=by
 obtain⟨b,d,e⟩:=iz.mp a;cases q:h.get? b with
 |none=>rw[q]at e;cases e
 |some o=>rw[q]at e;have f:=tz e;subst f;exact⟨d,q⟩
theorem Inv.pinned (I:Inv X a h H s)(hf:∀b∈c,FpOk X a H b)(i:∀b∈c,∃o,s.heap.get? b=Z9 o/\∀v,o.data≠.cell v):Inv X (a++z75 c s.heap) h H s:=I.gX λp j=>(bu.mp j).elim (λz=>I.pin p (bf _ z)) λz=>by obtain⟨f,e⟩:=NH z;obtain⟨k,l,m,_⟩:=hf p.1 f;obtain⟨o,g,d⟩:=i p.1 f;rw[e]at g;cases g;exact⟨e,k,l,m,d⟩
theorem Inv.bX (I:Inv X (a++pl) b H s):Inv X a b H s:=I.gX λp c=>I.pin p (bf _ (ey _ c))
theorem zaj (F:gc (model X.prog X.w) X.A X.env X.xe)(hc:X.calm=Z7)(hi:PI X Y B wi)(hg:PG X Y g)(j:PSs X G tb)
  (hs:∀x,gf B X.env x=pure x:=by intro _;rfl):PS X (.For Y B G [] pos) (jF wi g tb):=by
 intro a s σ H D I h;refine wpAny_For (aM (hi a s σ H _ I h) λv s1 h1=>aM h1 λxn s2 h2=>?_) hs;obtain⟨it,K,tn,J,H2,rfl,I2,T,R,f2,W,⟨m0,w0⟩,L⟩:=h2;have k:∀{z:Hp},(∀b∈K,z b=Z8)->∀b∈K,FpOk X a z b:=λhn b j=>⟨hn b j,(f2 b j).2⟩;refine codeAny_forLoop_any (λn s'=>∃i l z,Inv X a l z s'/\tn i s'.heap/\(∀b∈K,z b=Z8)/\W i n l z) ?_ m0 ⟨0,σ,H2,I2,R,λb j=>(f2 b j).1,w0⟩
 rintro n s3 ⟨i,p,Q,I3,M,O,w3⟩
 rcases L i n p Q w3 with⟨stop,qn⟩|⟨go,N,hN,step⟩
 .refine g9 F (aM (T.done X rfl rfl rfl hc i a s3 p Q X.xe I3 (k O) M stop) λr s4 ⟨hr,I4⟩=>?_);subst hr;exact lm ⟨p,Q,I4,qn⟩
 .refine g9 F (aM (T.item X rfl rfl rfl hc i a s3 p Q X.xe I3 (k O) M go) λr s4 ⟨u,hr,h4⟩=>?_);subst hr;refine g9 F (aM h4 ?_)
  rintro _ s5 ⟨x,H5,I5,r5,y5,E,S⟩
  refine g9 F (aM (hg _ s5 p H5 x u _ (I5.pinned (k S) (T.obj _ _ E)) r5 (step x H5 y5)) λ_ s6 ⟨U,H6,I6,q6⟩=>?_);refine g9 F (aM (j _ s6 U H6 _ I6 q6) λf V C=>?_);have q:∀{c:St} {t:Hp},Inv X (a++z75 K s5.heap) c t V->N c t->∃m,m<n/\∃i l z,Inv X a l z V/\tn i V.heap/\(∀b∈K,z b=Z8)/\W i m l z:=λ{c t} y P=>by obtain⟨m',hm,w7⟩:=hN c t P;refine⟨m',hm,i+1,c,t,y.bX,T.keep _ _ _ E λb j o e=>(y.pin (b,o) (bf _ (bf _ (vO j e)))).1,λb j=>?_,w7⟩;obtain⟨o,e,d⟩:=T.obj _ _ E b j;exact(y.pin (b,o) (bf _ (bf _ (vO j e)))).2.1
  cases f with
  |next=>obtain⟨c,t,y,P⟩:=C;exact q y P
  |cont=>obtain⟨c,t,y,P⟩:=C;exact q y P
  |brk=>obtain⟨c,t,y,C⟩:=C;exact⟨c,t,y.bX,C⟩
  |ret v=>obtain⟨x7,c,t,y,r7,C⟩:=C;exact⟨x7,c,t,y.bX,r7,C⟩
abbrev R2:=V->V->Hp->VK->Prop
def OpR (X:Cx)(f:Value->Value->Sem Value)(r:R2):Prop:=∀(pins:List (Addr×Obj)) (s:bb) (σ:St) (H:Hp) (x y:V) (v u:Value) (Q:VK),Inv X pins σ H s->RelV x v->RelV y u->r x y H Q->wpAny (model X.prog X.w) X.A (f v u) (EP X pins σ Q) X.xe s
def B5 (X:Cx)(f:Value->Sem Value)(r:V->Hp->VK->Prop):Prop:=∀(pins:List (Addr×Obj)) (s:bb) (σ:St) (H:Hp) (x:V) (v:Value) (Q:VK),Inv X pins σ H s->RelV x v->r x H Q->wpAny (model X.prog X.w) X.A (f v) (EP X pins σ Q) X.xe s
def CallR (X:Cx)(f:Value)(r:List V->Hp->VK->Prop):Prop:=∀(pins:List (Addr×Obj)) (s:bb) (σ:St) (H:Hp) (xs:List V) (us:List Value) (Q:VK),Inv X pins σ H s->Vals xs us->r xs H Q->wpAny (model X.prog X.w) X.A (call f us) (EP X pins σ Q) X.xe s
def B6 (X:Cx)(r:V->Hp->(Bool->Hp->Prop)->Prop):Prop:=∀(pins:List (Addr×Obj)) (s:bb) (σ:St) (H:Hp) (x:V) (v:Value) (Q:Bool->Hp->Prop),Inv X pins σ H s->RelV x v->r x H Q->wpAny (model X.prog X.w) X.A (truthy v) (TP X pins σ Q) X.xe s
def kF (r:R2)(ta tb:TE):TE:=λσ H Q=>ta σ H λx H1=>tb σ H1 λy H2=>r x y H2 Q
def NI (r:V->Hp->VK->Prop)(ta:TE):TE:=λσ H Q=>ta σ H λx H1=>r x H1 Q
def rI (C:Int->Int->Prop)(g:Int->Int->V):R2:=λx y H Q=>∃i j,x=.int i/\y=.int j/\C i j/\Q (g i j) H
def mG (g:Int->Int->V):R2:=λx y H Q=>∃i j,x=.int i/\y=.int j/\Q (g i j) H
def rU (g:Int->V):V->Hp->VK->Prop:=λx H Q=>∃i,x=.int i/\Q (g i) H
theorem binT (l:PE X a m)(n:PE X b o){R:V->V->Hp->Prop}(I:Inv X c e H s)
  (h:m e H λx k=>o e k λy d=>R x y d) {f:Value->Value->Sem Value}
  (hf:∀v u j x y d,Inv X c e d j->RelV x v->RelV y u->R x y d->wpAny (model X.prog X.w) X.A (f v u) Q X.xe j):
  wpAny (model X.prog X.w) X.A (eval a X.env) (λv g=>wpAny (model X.prog X.w) X.A (eval b X.env) (λu i=>wpAny (model X.prog X.w) X.A (f v u) Q X.xe i) X.xe g) X.xe s:=by
 exact aM (l c s e H _ I h) λv p ⟨x,k,q,r,t⟩=>aM (n c p e k _ q t) λu j ⟨y,d,z,B,C⟩=>hf v u j x y d z r B C
theorem NJ (d:OpR X (jf e) r)(f:PE X a g)(i:PE X b j):PE X (.BinOp a e b pos) (kF r g j):=by intro c s k H Q I h;exact wpAny_BinOp (binT f i I h λv u l x y m n o p q=>d c l k m x y v u Q n o p q)
theorem NK (d:B5 X (unaryOp e) r)(f:PE X a g):PE X (.UnaryOp e a pos) (NI r g):=by intro b s c H Q I h;exact UnaryOp_ (aM (f b s c H _ I h) λv i ⟨x,j,k,l,m⟩=>d b i c j x v Q k l m)
theorem opI {g:Int->Int->Int}
  (a:∀i j t u s Q E,C i j->Q (.int (g i j) s.toks) {s with toks:=s.toks+1}->wpAny (model X.prog X.w) X.A (f (.int i t) (.int j u)) Q E s):
  OpR X f (rI C λi j=>.int (g i j)):=by
 rintro b s h H x y v u Q I c d ⟨i,j,rfl,rfl,hc,q⟩
 obtain⟨t,rfl⟩:=c;obtain⟨e,rfl⟩:=d;exact a i j t e s _ _ hc ⟨.int (g i j),H,I.tok _,⟨_,rfl⟩,q⟩
theorem opI0 {g:Int->Int->Int}
  (a:∀i j t u s Q E,Q (.int (g i j) s.toks) {s with toks:=s.toks+1}->wpAny (model X.prog X.w) X.A (f (.int i t) (.int j u)) Q E s):
  OpR X f (mG λi j=>.int (g i j)):=by
 rintro b s h H x y v u Q I c d ⟨i,j,rfl,rfl,q⟩
 obtain⟨t,rfl⟩:=c;obtain⟨e,rfl⟩:=d;exact a i j t e s _ _ ⟨.int (g i j),H,I.tok _,⟨_,rfl⟩,q⟩
theorem opB0 {g:Int->Int->Bool}
  (a:∀i j t u s Q E,Q (.bool (g i j)) s->wpAny (model X.prog X.w) X.A (f (.int i t) (.int j u)) Q E s):
  OpR X f (mG λi j=>.bl (g i j)):=by
 rintro b s h H x y v u Q I c d ⟨i,j,rfl,rfl,q⟩
 obtain⟨t,rfl⟩:=c;obtain⟨e,rfl⟩:=d;exact a i j t e s _ _ ⟨.bl (g i j),H,I,rfl,q⟩
def B7 (i j:Int):Prop:=0<=j/\j<=1000000/\i.natAbs<2 ^ 64
def tY (i j:Int):Prop:=(-(2 ^ 64)<i/\i<2 ^ 64)\/(-(2 ^ 64)<j/\j<2 ^ 64)
theorem tY.ok (h:tY i j):IntMulOk i j:=by
 rcases h with⟨a,b⟩|⟨a,b⟩
 .exact .of_left (intBits_le_64 a b)
 .exact .of_right (intBits_le_64 a b)
theorem NL:OpR X (jf .Add) (mG λi j=>.int (i+j)):=opI0 λ_ _ _ _ _ _ _ q=>add_int q
theorem NM:OpR X (jf .Sub) (mG λi j=>.int (i-j)):=opI0 λ_ _ _ _ _ _ _ q=>sub_int q
theorem NN:OpR X (jf .Mult) (rI tY λi j=>.int (i*j)):=opI λ_ _ _ _ _ _ _ hc q=>mul_int q hc.ok
theorem NO:OpR X (jf .Mod) (rI (λ_ j=>0<j) λi j=>.int (i%j)):=opI λi j _ _ _ _ _ hc q=>by exact mod_int' (by omega) (by rw[Int.fmod_eq_emod_of_nonneg i (by omega)];exact q)
theorem NP:OpR X (jf .Pow) (rI B7 λi j=>.int (i ^ j.toNat)):=opI λ_ _ _ _ _ _ _ hc q=>pow_int_small hc.1 hc.2.1 hc.2.2 q
theorem unI {g:Int->Int}
  (a:∀i t s Q E,Q (.int (g i) s.toks) {s with toks:=s.toks+1}->wpAny (model X.prog X.w) X.A (f (.int i t)) Q E s):
  B5 X f (rU λi=>.int (g i)):=by
 rintro b s d H x v Q I c ⟨i,rfl,q⟩
 obtain⟨t,rfl⟩:=c;exact a i t s _ _ ⟨.int (g i),H,I.tok _,⟨_,rfl⟩,q⟩
theorem NQ:B5 X (unaryOp .USub) (rU λi=>.int (-i)):=unI λ_ _ _ _ _ q=>neg_int q
theorem NR:OpR X (dz .Lt) (mG λi j=>.bl (decide (i<j))):=opB0 λ_ _ _ _ _ _ _ q=>lt_int q
theorem NS:OpR X (dz .LtE) (mG λi j=>.bl (decide (i<=j))):=opB0 λ_ _ _ _ _ _ _ q=>le_int q
theorem NT:OpR X (dz .Gt) (mG λi j=>.bl (decide (j<i))):=opB0 λ_ _ _ _ _ _ _ q=>gt_int q
theorem OpR.or (h:OpR X f r)(e:OpR X f g):OpR X f (λx y H Q=>r x y H Q\/g x y H Q):=by
 intro a s b H x y v u Q I c d q;rcases q with q|q
 .exact h a s b H x y v u Q I c d q
 .exact e a s b H x y v u Q I c d q
theorem Hb (e:OpR X (dz d) r)(f:PE X a g)(i:PE X b j)(hm:d6 d b=Z6):PE X (.Compare a [d] [b] pos) (kF r g j):=by intro c s k H Q I h;exact wpAny_Compare1 (binT f i I h λv u l x y m n o p q=>e c l k m x y v u Q n o p q) hm
def rY (t:TE):TT:=λσ H Q=>t σ H λx H'=>∃k,x=.bl k/\Q k H'
theorem Hc (i:OpR X (dz g) r)(j:PE X a l)(m:PE X b n)(hm:d6 g b=Z6):PT X (.Compare a [g] [b] pos) (rY (kF r l n)):=by intro d s f H Q I h;refine on (aM (j d s f H _ I h) λv o ⟨x,p,q,t,w⟩=>aM (m d o f p _ q w) λu A ⟨y,B,C,D,E⟩=>aM (i d A f B x y v u _ C t D E) λc L ⟨z,F,G,J,k,e,K⟩=>?_) hm;subst e;cases J;exact gb ⟨F,G,K⟩
def B8 (r r':R2)(ta tb tc:TE):TE:=λσ H Q=>ta σ H λx H1=>tb σ H1 λy H2=>r x y H2 λz H3=>∃k,z=.bl k/\(if k=Z7 then tc σ H3 λw' H4=>r' y w' H4 Q else Q (.bl Z6) H3)
theorem zfp (q:OpR X (dz l) r)(j:OpR X (dz g) t)(w:PE X a A)(B:PE X b C)(hc:PE X c tc)
  (hm:lastMarks [l,g] [b,c]=false:=by with_unfolding_all rfl):PT X (.Compare a [l,g] [b,c] pos) (rY (B8 r t A C tc)):=by
 intro f s i H Q I h;refine isTrue_chain (aM (w f s i H _ I h) λv D ⟨x,E,F,G,J⟩=>test_link (aM (B f D i E _ F J) λu K ⟨y,L,M,m,N⟩=>aM (q f K i L x y v u _ M G m N) λd O ⟨z,n,o,P,k,e,p⟩=>?_)) hm;subst e;cases P;refine gb ?_;cases k with
 |false=>obtain⟨k',R,S⟩:=p;cases R;exact ite_ff ⟨n,o,S⟩
 |true=>
  refine ite_tt (test_last (aM (hc f O i n _ o p) λT U ⟨V,W,Y,Z,q4⟩=>aM (j f U i W y V u T _ Y m Z q4) ?_))
  rintro d' s5 ⟨z2,H5,I5,r5,k2,e2,q5⟩
  subst e2;cases r5;exact gb ⟨H5,I5,q5⟩
def mW (K:Z5)(x:V)(H:Hp)(k:Bool):Prop:=
 match x with
 |.aO=>k=Z6
 |.bl b=>k=b
 |.int i=>k=(i != 0)
 |.str y=>y.length<=ba/\k=((y.length:Int) != 0)
 |.ref p=>(∃xs,SqL K H p xs/\k=!xs.isEmpty)\/(∃xs,dD K H p xs/\k=!xs.isEmpty)\/∃kvs,H p=Z9 (.dK kvs)/\k=!kvs.isEmpty
 |_=>False
theorem NU (r:KV kvs a):(!a.isEmpty)=!kvs.isEmpty:=by cases r<;>rfl
theorem He (r:Vals b a):(!a.toArray.isEmpty)=!b.isEmpty:=by cases r<;>simp
theorem tZ:(ba:Nat)<2 ^ 63:=by rw[cb];decide
theorem Hf:B6 X (λx H Q=>∃k,mW X.K x H k/\Q k H):=by
 rintro h s o H x v Q I d ⟨k,e,q⟩
 have u:=tZ;cases x with
 |aO=>cases d;have a:=e;subst a;exact truthy_none ⟨H,I,q⟩
 |bl b=>cases d;have a:=e;subst a;exact gb ⟨H,I,q⟩
 |int i=>obtain⟨t,rfl⟩:=d;have a:=e;subst a;exact PySem.P.truthy_int ⟨H,I,q⟩
 |str y=>obtain⟨t,rfl⟩:=d;obtain⟨w,rfl⟩:=e;exact PySem.P.truthy_str (by omega) ⟨H,I.tok _,q⟩
 |ref p=>
  cases d;have a:=e;rcases a with⟨l,f,a⟩|⟨l,f,a⟩|⟨kvs,f,a⟩
  .subst a;obtain⟨g,r,pl,j⟩:=I.list f;have c:=r.length;exact wpAny_truthy_list pl.isList (by grind) ⟨H,I.tok _,by rw[He r];exact q⟩
  .subst a;obtain⟨g,r,pl,j⟩:=I.tuple f;have c:=r.length;exact truthy_tuple pl (by grind) ⟨H,I.tok _,by rw[He r];exact q⟩
  .subst a;obtain⟨j,n,z,r,m⟩:=I.hok p _ f;have c:=Paired.length r;exact wpAny_truthy_dict n m (by omega) ⟨H,I.tok _,by rw[NU r];exact q⟩
 |_=>exact e.elim
theorem za4 (f:PE X a g)(i:∀b,rh a X.env b=(do let v <-b;standAt a.pos;holding [v] (truthy v))):
  PT X a (λd H Q=>g d H λx e=>∃k,mW X.K x e k/\Q k e):=by
 intro c s d H Q I h;exact isTrue_plain (aM (f c s d H _ I h) λv j ⟨x,l,m,n,o⟩=>Hf c j d l x v Q m n o) (i _)
theorem NV:OpR X (jf .Add) (λx y H Q=>∃i j,x=.str i/\y=.str j/\i.length+j.length<=ba/\Q (.str (i++j)) H):=by
 rintro a s f H x y v u Q I b c ⟨i,j,rfl,rfl,d,q⟩
 obtain⟨t,rfl⟩:=b;obtain⟨e,rfl⟩:=c;exact add_str (λe g=>⟨.str (i++j),H,I.tok _,⟨_,rfl⟩,q⟩) d
theorem vals1 (r:Vals [x] a):∃u,a=[u]/\RelV x u:=by
 cases r with
 |cons b c=>cases c;exact⟨_,rfl,b⟩
theorem vals2 (r:Vals [x,y] b):∃u a,b=[u,a]/\RelV x u/\RelV y a:=by
 cases r with
 |cons c d=>
  cases d with
  |cons e f=>cases f;exact⟨_,_,rfl,c,e⟩
theorem NW (hc:X.calm=Z7):CallR X (.builtin "max") (λb H Q=>∃i j,b=[.int i,.int j]/\Q (.int (if j>i then j else i)) H):=by
 rintro c s d H b e Q I r ⟨i,j,rfl,q⟩
 obtain⟨u,f,rfl,⟨t,rfl⟩,g,rfl⟩:=vals2 r;refine max_two_ints (I.ok.hd hc) λh l k=>⟨_,H,I.kept k,?_,q⟩;by_cases a:j>i
 .rw[tw a,tw a];exact⟨_,rfl⟩
 .rw[tx a,tx a];exact⟨_,rfl⟩
theorem NY (hc:X.calm=Z7):CallR X (.builtin "min") (λb H Q=>∃i j,b=[.int i,.int j]/\Q (.int (if j<i then j else i)) H):=by
 rintro c s d H b e Q I r ⟨i,j,rfl,q⟩
 obtain⟨u,f,rfl,⟨t,rfl⟩,g,rfl⟩:=vals2 r;refine min_two_ints (I.ok.hd hc) λh l k=>⟨_,H,I.kept k,?_,q⟩;by_cases a:j<i
 .rw[tw a,tw a];exact⟨_,rfl⟩
 .rw[tx a,tx a];exact⟨_,rfl⟩
theorem NZ:CallR X (.type "int") (λa H Q=>(∃i,a=[.int i]/\Q (.int i) H)\/∃k,a=[.bl k]/\Q (.int (if k then 1 else 0)) H):=by
 intro b s c H a d Q I r h;rcases h with⟨i,rfl,q⟩|⟨k,rfl,q⟩
 .obtain⟨u,rfl,t,rfl⟩:=vals1 r;exact call_int_int ⟨.int i,H,I,⟨_,rfl⟩,q⟩
 .obtain⟨u,rfl,rfl⟩:=vals1 r;exact call_int_bool ⟨.int (if k then 1 else 0),H,I.tok _,⟨_,rfl⟩,q⟩
structure ObjM (h:Heap)(x dx C:Addr)(mA:Str->Option Value):Prop where
 obj:h.get? x=Z9 (W.instObj C dx)
 ns:h.Ns1 dx mA
 ne:dx≠x
theorem N0 {h:Heap}(n:h.Ns1 dx d):∃od,h.get? dx=Z9 od/\∀b,W.lookIn b od=Z9 (d b):=by
 obtain⟨o,es,ep,f,hd,g,_,hm⟩:=n;refine⟨o,f,λb=>?_⟩;have e:=hm b;unfold nsFind findBy at e;rw[<-qg]at e;unfold W.lookIn;rw[hd]
 dsimp only
 split
 .rename_i y q;rw[q]at e;exact congrArg Z9 e
 .rename_i q;rw[q]at e;have a:es.toList.any (·.refKey)=false:=by rw[List.any_eq_false];intro y i;obtain⟨z,t,c⟩:=g y (Array.mem_toList_iff.mp i);simp[DictEntry.refKey,c]
  rw[tx (a▸jx)];exact congrArg Z9 e
theorem ObjM.look (I:ObjM h x dx C b):∃od,W.InstAt h x (W.instObj C dx) C (Z9 od)/\∀a,W.lookIn a od=Z9 (b a):=
 let⟨od,ho,hl⟩:=N0 I.ns
 ⟨od,⟨I.obj,rfl,rfl,ho⟩,hl⟩
section
variable {prog:cu}{w:World}{A:gn}{E:Value->bb->Prop}{s:bb}{K:Z5}{x dx C f:Addr}{mA:Str->Option Value}{name:Str}{v:Value}
theorem zlz (X:K.In s.heap)(I:ObjM s.heap x dx C mA)(b:W.plainGet K C name=Z7)(hh:W.hasDictIn K C=Z7)
  (c:Z4 K (.ref C) name=Z9 Z8) (d:mA name=Z9 v) (a:W.handedIn v=Z7) (h:Q v {s with toks:=s.toks+1}):
  wpAny (model prog w) A (tt (.ref x) name expr) Q E s:=by
 obtain⟨od,J,e⟩:=I.look;exact W.get_value X J (W.plainGet_of b).1 (W.findObj_own hh c rfl (by rw[e,d])) a h
theorem zg1 (X:K.In s.heap)(I:ObjM s.heap x dx C mA)(a:W.plainGet K C name=Z7)
  (hf:Z4 K (.ref C) name=Z9 (Z9 (.ref f))) (b:W.isFn K (.ref f)=Z7) (c:mA name=Z8) (h:Q (.ref f,[.ref x]) s):
  wpAny (model prog w) A (getMethod (.ref x) name pl) Q E s:=by
 obtain⟨od,J,d⟩:=I.look;exact W.method_fn X J (W.plainGet_of a).1 (W.plainGet_of a).2 hf (uc b) (by show(W.lookIn name od).map (·.isSome)=Z9 Z6;rw[d,c];rfl) h
theorem zmf (X:K.In s.heap)(I:ObjM s.heap x dx C mA)
  (hs:Z4 K (.ref C) "__setattr__"=Z9 (Z9 (.builtin "object.__setattr__"))) (i:W.plainOver K C=Z7) (j:W.takerIn K C name=Z9 Z8) (hh:W.hasDictIn K C=Z7)
  (k:PySem.Within mA ns) (l:ns.length<=ba)
  (h:∀d,ObjM d x dx C (λy=>if y=name then Z9 v else mA y)->gq dx s.heap d->Q () {s with heap:=d,toks:=s.toks+2}):
  wpAny (model prog w) A (setAttr (.ref x) name v) Q E s:=by
 obtain⟨od,J,o⟩:=I.look;refine W.set_plain X J hs (W.osa_open X J i j λb=>?_);obtain⟨cd,hc,e⟩:=W.any_some hh;refine ah (bv (ah (ah (wpAny_loadPart I.obj (ah (W.Looks.here (W.looks_clsIn X hc) ?_))))));rw[e];refine bv (ah (bv (ah ?_)));refine wpAny_nsSet1 I.ns λd a c=>?_;obtain⟨p,m,n,f,hZ,g⟩:=a.count (PySem.Within.cons name v k);refine ah (wpAny_lookBehind f (hZ▸pastItsLine_dict (bj g (by grind))) ?_);exact bv (h _ ⟨(c.2 _ (Ne.symm I.ne)).trans I.obj,a,I.ne⟩ c)
theorem zgz (X:K.In s.heap)(hm:W.makesIn K C=Z7)
  (c:Z4 K (.ref C) "__init__"=Z9 (Z9 (.ref f))) (hf:W.typeIn K (.ref f)=Z9 (.type "function"))
  (h:jl (model prog w) (A.under (.builtin "type.__call__" ⟨.ref C::a,b⟩)) (.call (.ref f) ⟨.ref (s.heap.objs.size+1)::a,b⟩) (W.InitBack (s.heap.objs.size+1) R)
   {s with heap:=(s.heap.push W.emptyDict).push (W.instObj C s.heap.objs.size)}):
  jl (model prog w) A (.call (.ref C) ⟨a,b⟩) R s:=by
 exact W.make_core (W.makes_of X hm) (Z3 X c) (λself=>W.bind_fn X self hf) (.inl rfl) h
end
def bU (f:Str)(v:V):List (Str×V)->List (Str×V)
 | []=>[(f,v)]
 |(g,x)::r=>if g=f then(g,v)::r else(g,x)::bU f v r
theorem Hg (f g:Str)(v:V):∀fs,(bU f v fs).lookup g=if g=f then Z9 v else fs.lookup g
 | []=>by
  show j4 g [(f,v)]=_;by_cases h:g=f
  .have a:(g==f)=true:=beq_iff_eq.mpr h;simp only[j4,a,tw h]
  .have a:(g==f)=false:=beq_eq_false_iff_ne.mpr h;simp only[j4,a,tx h]
 |(k,x)::r=>by
  rw[show bU f v ((k,x)::r)=(if k=f then(k,v)::r else(k,x)::bU f v r)from rfl];by_cases b:k=f
  .rw[tw b];by_cases h:g=k
   .have a:(g==k)=true:=beq_iff_eq.mpr h;simp only[j4,a,tw (h.trans b)]
   .have a:(g==k)=false:=beq_eq_false_iff_ne.mpr h;simp only[j4,a,tx (λe:g=f=>h (e.trans b.symm))]
  .rw[tx b];by_cases h:g=k
   .have a:(g==k)=true:=beq_iff_eq.mpr h;simp only[j4,a,tx (λe:g=f=>b (h.symm.trans e))]
   .have a:(g==k)=false:=beq_eq_false_iff_ne.mpr h;simp only[j4,a];exact Hg f g v r
theorem B9 (f:Str)(v:V):∀fs,f∈(bU f v fs).map (·.1)/\∀g,g∈fs.map (·.1)->g∈(bU f v fs).map (·.1)
 | []=>⟨by simp[bU],λg h=>by simp at h⟩
 |(k,x)::r=>by
  obtain⟨b,c⟩:=B9 f v r;rw[show bU f v ((k,x)::r)=(if k=f then(k,v)::r else(k,x)::bU f v r)from rfl];by_cases a:k=f
  .rw[tw a];subst a;exact⟨by simp,λg h=>by simpa using h⟩
  .rw[tx a];refine⟨?_,λg h=>?_⟩
   .rw[br];exact bc _ b
   .rw[br]at h ⊢;rcases bq.mp h with e|e
    .exact bq.mpr (.inl e)
    .exact bc _ (c g e)
theorem Hh (f:Str)(v:V):∀fs,(bU f v fs).length<=fs.length+1
 | []=>by simp[bU]
 |(k,x)::r=>by
  have b:=Hh f v r;rw[show bU f v ((k,x)::r)=(if k=f then(k,v)::r else(k,x)::bU f v r)from rfl];by_cases a:k=f
  .rw[tw a,bh,bh];omega
  .rw[tx a,bh,bh];omega
theorem cA.some_of (r:cA (Z9 v) o):∃u,o=Z9 u/\RelV v u:=by
 cases o with
 |none=>exact r.elim
 |some u=>exact⟨u,rfl,r⟩
theorem cA.none_of (r:cA Z8 o):o=none:=by
 cases o with
 |none=>rfl
 |some u=>exact r.elim
theorem Hi (r:RelV v u):W.handedIn u=true:=by
 cases v with
 |aO=>cases r;rfl
 |bl b=>cases r;rfl
 |int i=>obtain⟨t,e⟩:=r;cases e;rfl
 |str x=>obtain⟨t,e⟩:=r;cases e;rfl
 |ref a=>cases r;rfl
 |ty n=>cases r;rfl
theorem zQ (hok:HOk P w H h)(e:H a=Z9 (.ins C dx fs)):∃b,ObjM h a dx C b/\(∀f,cA (fs.lookup f) (b f))/\PySem.Within b (fs.map (·.1))/\fs.length<=1000/\H dx=Z9 (.own a):=by obtain⟨d,z,ne,ob,b,n,r,q⟩:=(hok a _ e);exact⟨b,⟨ob,n,ne⟩,r,q,z,d⟩
structure Cls (K:Z5)(C:Addr):Prop where
 pg:W.plainGet K C Str.empty=Z7
 hd:W.hasDictIn K C=Z7
 po:W.plainOver K C=Z7
 sa:Z4 K (.ref C) "__setattr__"=Z9 (Z9 (.builtin "object.__setattr__"))
theorem Cls.get {K:Z5}(c:Cls K C)(f:Str):W.plainGet K C f=true:=c.pg
def z23 (K:Z5)(C:Addr)(f:Str):Prop:=Z4 K (.ref C) f=Z9 Z8
theorem z23.xq {K:Z5}(n:z23 K C f):W.takerIn K C f=Z9 none:=by unfold W.takerIn;rw[show Z4 K (.ref C) f=Z9 Z8 from n];rfl
structure Meth (K:Z5)(C:Addr)(m:Str)(f:Addr):Prop where
 at_:Z4 K (.ref C) m=Z9 (Z9 (.ref f))
 fn:W.isFn K (.ref f)=Z7
 kp:Z2 K (.ref f)=Z7
theorem zbt (I:Inv X d j H s)(e:H a=Z9 (.ins C dx fs))(c:Cls X.K C)(n:z23 X.K C f)(l:fs.lookup f=Z9 v)
  (h:∀u g,Inv X d j H g->RelV v u->Q u g):wpAny (model X.prog X.w) A (tt (.ref a) f b) Q E s:=by
 obtain⟨k,O,r,_,_,_⟩:=zQ I.hok e;obtain⟨u,hu,i⟩:=cA.some_of (l▸r f);exact zlz I.cL O (c.get f) c.hd n hu (Hi i) (h u _ (I.tok _) i)
theorem z5p (I:Inv X b d H s)(e:H a=Z9 (.ins C dx fs))(c:Cls X.K C)(k:Meth X.K C m g)(l:fs.lookup m=Z8)
  (h:Q (.ref g,[.ref a]) s):wpAny (model X.prog X.w) A (getMethod (.ref a) m pl) Q E s:=by
 obtain⟨f,O,r,_,_,_⟩:=zQ I.hok e;exact zg1 I.cL O (c.get m) k.at_ k.fn (cA.none_of (l▸r m)) h
theorem zb7 (I:Inv X d m H s)(e:H a=Z9 (.ins C dx fs))(c:Cls X.K C)(n:z23 X.K C f)(B:fs.length<1000)(p:RelV y u)
  (h:∀j,Inv X d m (upd H a (.ins C dx (bU f y fs))) j->Q () j):wpAny (model X.prog X.w) A (setAttr (.ref a) f u) Q E s:=by
 obtain⟨k,O,r,wi,_,l⟩:=zQ I.hok e;refine zmf I.cL O c.sa c.po n.xq c.hd wi (by rw[ae,cb];omega) λD i t=>h _ (I.write (e▸True.intro) (.inr l) (λb q v z=>(t.2 b v).trans z) (let⟨o,_,_,e',_⟩:=i.ns;⟨o,e'⟩) ⟨by rw[aG O.ne];exact l,?_,O.ne,i.obj,_,i.ns,λg=>?_,λg x=>?_⟩)
 .have:=Hh f y fs;omega
 .show cA ((bU f y fs).lookup g) (if g=f then Z9 u else k g);rw[Hg];by_cases q:g=f
  .rw[tw q,tw q];exact p
  .rw[tx q,tx q];exact r g
 .by_cases q:g=f
  .rw[q];exact(B9 f y fs).1
  .refine(B9 f y fs).2 g (wi g λz=>x ?_);show(if g=f then Z9 u else k g)=Z8;rw[tx q];exact z
theorem Inv.made (I:Inv X a d H s):Inv X a d (upd (upd H s.heap.objs.size (.own (s.heap.objs.size+1))) (s.heap.objs.size+1) (.ins C s.heap.objs.size []))
  {s with heap:=(s.heap.push W.emptyDict).push (W.instObj C s.heap.objs.size)}:=by
 have c:(s.heap.push W.emptyDict).get? s.heap.objs.size=Z9 W.emptyDict:=bx s.heap rfl
 have f:((s.heap.push W.emptyDict).push (W.instObj C s.heap.objs.size)).get? (s.heap.objs.size+1)=Z9 (W.instObj C s.heap.objs.size):=by
  have:=bx (s.heap.push W.emptyDict) (o:=W.instObj C s.heap.objs.size) rfl
  rwa [ot]at this
 refine(I.laid (o:=.own (s.heap.objs.size+1)) (t':=s.toks) (λb u q=>am _ q) (ak _) ⟨_,c⟩).laid (λb u q=>am _ q) (Nat.le_of_eq (ot _ _)) ?_;have ne:s.heap.objs.size≠s.heap.objs.size+1:=cv (iu _);refine⟨by rw[aG ne,bF],c9 _,ne,f,λ_=>Z8,(qk ⟨W.emptyDict,#[],_,c,rfl,(λe g=>absurd g (by simp)),λ_=>rfl⟩).at λo q=>am _ q,λ_=>True.intro,λy h=>absurd rfl h⟩
theorem zdw (b:kz e f env (eval e env)=eval e env)
  (h:wpAny (model prog w) A (eval e env) (λo a=>wpAny (model prog w) A (tt o f Z7) Q E a) E s):wpAny (model prog w) A (eval (.Attribute e f pos) env) Q E s:=
 Attribute_any_ h (by rw[arm_eval_Attribute,b])
def ud (K:Z5)(ta:TE)(f:Str):TE:=λσ H Q=>ta σ H λx H1=>∃a C dx fs v,x=.ref a/\H1 a=Z9 (.ins C dx fs)/\Cls K C/\z23 K C f/\fs.lookup f=Z9 v/\Q v H1
def ue (K:Z5)(ta tv:TE)(f:Str):TS:=λD σ H=>tv σ H λy H1=>ta σ H1 λx H2=>∃a C dx fs,x=.ref a/\H2 a=Z9 (.ins C dx fs)/\Cls K C/\z23 K C f/\fs.length<1000/\D.nx σ (upd H2 a (.ins C dx (bU f y fs)))
theorem N1 (d:PE X e g)(i:kz e f X.env (eval e X.env)=eval e X.env):PE X (.Attribute e f pos) (ud X.K g f):=by
 intro b s j H Q I h;refine zdw i (aM (d b s j H _ I h) ?_)
 rintro u w ⟨x,k,m,o,a,C,dx,fs,v,ex,p,c,n,l,q⟩
 subst ex;obtain rfl:u=ZS a:=o;exact zbt m p c n l λy z r t=>⟨v,k,r,t,q⟩
theorem N2 (g:PE X o i)(j:PE X value tv)(hs:jk value (Z9 (.Attribute o f d)) pos.line X.env=pure Z6):PS X (.Assign [.Attribute o f d] value pos) (ue X.K i tv f):=by
 intro b s e H D I h;refine ko (aM (j b s e H _ I h) λu k ⟨y,m,p,r,q⟩=>aM (g b k e m _ p q) ?_) hs
 rintro ov B ⟨x,E,t,v,a,C,dx,fs,ex,w,c,n,l,z⟩
 subst ex;obtain rfl:ov=ZS a:=v;exact zb7 t w c n l r λF A=>⟨e,_,A,z⟩
section
variable {H:Hp}
inductive TyOf (K:Z5)(H:Hp):V->Value->Prop where
 |aO:TyOf K H .aO (.type "NoneType")
 |bl (x:Bool):TyOf K H (.bl x) (.type "bool")
 |int (i:Int):TyOf K H (.int i) (.type "int")
 |str (x:Str):TyOf K H (.str x) (.type "str")
 |lst {a:Addr} {xs:List V} (e:H a=Z9 (.lst xs)):TyOf K H (.ref a) (.type "list")
 |fV {a:Addr} {o:Obj} {xs:List V} (e:H a=Z9 (.fV o (.lst xs))):TyOf K H (.ref a) (.type "list")
 |tup {a:Addr} {xs:List V} (e:H a=Z9 (.tup xs)):TyOf K H (.ref a) (.type "tuple")
 |dK {a:Addr} {kvs:List (Key×V)} (e:H a=Z9 (.dK kvs)):TyOf K H (.ref a) (.type "dict")
 |dT {a:Addr} {kvs:List (List Key×V)} (e:H a=Z9 (.dT kvs)):TyOf K H (.ref a) (.type "dict")
 |ins {a C dx:Addr} {fs:List (Str×V)} (e:H a=Z9 (.ins C dx fs)) (cl:Cls K C) (ha:Z4 K (.ref C) "__class__"=Z9 (Z9 (.builtin "object.__class__")))
  (hn:W.specialIn K (.builtin "object.__class__") "__get__"=Z9 (Z9 (.builtin "getset_descriptor.__get__"))) (WZ:W.takesIn K (.builtin "object.__class__")=Z9 Z7)
  (hm:W.mroIn K C (.type "object")=Z9 Z7):TyOf K H (.ref a) (.ref C)
theorem z2j (I:Inv X m B H s)(f:RelV x u)(ty:TyOf X.K H x t)(e:W.kitOne X.K t c=Z9 b)(h:∀r,Q (.bool b) {s with toks:=r}):
  wpAny (model X.prog X.w) A (call (.builtin "isinstance") [u,c]) Q E s:=by
 cases ty with
 |aO=>cases f;exact Z1 W.kitx_none I.cL True.intro e (λz=>nomatch z) h
 |bl y=>cases f;exact Z1 W.kitx_bool I.cL True.intro e (λz=>nomatch z) h
 |int i=>obtain⟨t,q⟩:=f;cases q;exact Z1 W.kitx_int I.cL True.intro e (λz=>nomatch z) h
 |str y=>obtain⟨t,q⟩:=f;cases q;exact Z1 W.kitx_str I.cL True.intro e (λz=>nomatch z) h
 | @lst a k d=>cases f;obtain⟨_,_,n,_,g⟩:=(I.hok a _ d);exact Z1 W.kitx_list I.cL ⟨_,g,rfl⟩ e (λz=>nomatch z) h
 | @fV a ob k d=>cases f;obtain⟨_,_,_,n,_,g⟩:=(I.hok a _ d);exact Z1 W.kitx_list I.cL ⟨_,g,rfl⟩ e (λz=>nomatch z) h
 | @tup a k d=>cases f;obtain⟨_,_,_,p⟩:=(I.hok a _ d);obtain⟨o,g,j,_⟩:=p.tup;exact Z1 W.kitx_tuple I.cL ⟨o,g,j⟩ e (λz=>nomatch z) h
 | @dK a kvs d=>cases f;obtain⟨_,_,D,_,⟨o,es,ep,g,j,_⟩⟩:=(I.hok a _ d);exact Z1 W.kitx_dict I.cL ⟨o,g,j.1⟩ e (λz=>nomatch z) h
 | @dT a kvs d=>cases f;obtain⟨_,_,k,_,o,es,ep,g,j,_⟩:=(I.hok a _ d);exact Z1 W.kitx_dict I.cL ⟨o,g,j.1⟩ e (λz=>nomatch z) h
 | @ins a C dx fs d cl v hn l hm=>cases f;obtain⟨F,O,_⟩:=zQ I.hok d;obtain⟨od,J,_⟩:=O.look;exact Z1 (W.kitx_own (cl.get _) cl.hd v hn l hm) I.cL J e (λz=>nomatch z) h
end
structure Room (k:Nat)(A:gn):Prop where
 hd:A.handled=Z8
 dp:A.depth+3*k+5<recursionLimit
 un:A.units+16*k+200<cLine
theorem Room.mono (r:Room k A)(h:j<=k):Room j A:=⟨r.hd,by have:=r.dp;omega,by have:=r.un;omega⟩
theorem Room.deeper (r:Room (k+1) A)(env:Env):Room k (A.deeper env):=⟨r.hd,by have:=r.dp;show A.depth+1+3*k+5<_;omega,by have:=r.un;show A.units+3+16*k+200<_;omega⟩
theorem N3 {A:gn}:(A.under (.builtin "type.__call__" ⟨.ref C::a,b⟩)).depth=A.depth+1:=by first|rfl|simp[Around.under,Code.weight,Code.isCreation,Code.isGuard,Code.isCaller,Code.frames,Code.isFrame,guardIds]
theorem N4 {A:gn}:(A.under (.builtin "type.__call__" ⟨.ref C::a,b⟩)).units=A.units+1:=by first|rfl|simp[Around.under,Code.cUnits,Code.frames,Code.isFrame]
theorem Room.make (r:Room (k+1) A)(C:Addr)(a:List Value)(b:List (Str×Value)):Room k (A.under (.builtin "type.__call__" ⟨.ref C::a,b⟩)):=⟨r.hd,by have:=r.dp;rw[N3];omega,by have:=r.un;rw[N4];omega⟩
theorem Room.depth (r:Room k A):A.depth<recursionLimit:=by have:=r.dp;omega
theorem Room.units (r:Room k A):A.units+64<cLine:=by have:=r.un;omega
def fF:TA:=λ_ H Q=>Q [] H
def oY (ta:TE)(tr:TA):TA:=λσ H Q=>ta σ H λx H1=>tr σ H1 λxs H2=>Q (x::xs) H2
theorem lD:PA X [] fF:=λ_ _ _ _ H Q I h=>Calls.spliced_nil ⟨[],H,I,.nil,h⟩
theorem zR (c:PE X e te)(hr:PA X es t)(hs:dj (e::es) X.env=(Z6,eval e X.env)::dj es X.env:=by rfl):PA X (e::es) (oY te t):=by
 intro pos a s b H Q I h;rw[hs];refine Calls.spliced_cons (aM (c a s b H _ I h) ?_)
 rintro u d ⟨x,f,g,i,j⟩
 exact aM (hr pos a d b f _ g j) λp q ⟨k,l,m,n,o⟩=>⟨x::k,l,m,.cons i n,o⟩
def xr (t:TA):TE:=λσ H Q=>t σ H λxs H1=>xs.length<=ba/\∀p,H1 p=Z8->Q (.ref p) (upd H1 p (.tup xs))
def xu (t:TA):TE:=λσ H Q=>t σ H λxs H1=>xs.length<=ba/\∀p,H1 p=Z8->Q (.ref p) (upd H1 p (.lst xs))
theorem Hj {f}(h:PA X es t):PE X (.Tuple es f pos) (xr t):=by intro a s g H Q I i;refine wpAny_Tuple_spliced (aM (h pos a s g H _ I i) λj c ⟨k,l,d,r,z,q⟩=>⟨by rw[<-r.length];exact z,?_⟩);refine⟨.ref c.heap.objs.size,upd l c.heap.objs.size (.tup k),d.laid (λb u e=>am _ e) (ak _) ?_,rfl,q _ (d.hok.fresh (ak _))⟩;exact⟨z,j,r,⟨_,bx _ rfl⟩⟩
theorem Hk (h:PA X es t):PE X (.List es pos) (xu t):=by intro a s f H Q I g;refine wpAny_List_spliced (aM (h pos a s f H _ I g) λi c ⟨j,k,d,r,z,q⟩=>⟨by rw[<-r.length];exact z,?_⟩);refine⟨.ref c.heap.objs.size,upd k c.heap.objs.size (.lst j),d.laid (λb u e=>am _ e) (ak _) ?_,rfl,q _ (d.hok.fresh (ak _))⟩;exact⟨z,i,0,r,bx _ rfl⟩
abbrev Sp:=List V->Hp->VK->XK->Prop
abbrev CXT:=List Env->Hp->bb->XK->Value->bb->Prop
structure lE (P:cu)(w:World)(K:Z5)(mg:Str->Option Value)(base:Heap)(A:gn)(outer:List Env)(s:bb)(H:Hp):Prop where
 frames:A.frames=Z9 outer
 mod:Mod K mg base
 bs:∀b o,base.get? b=Z9 o->s.heap.get? b=Z9 o/\H b=Z8
 kE:base.objs.size<=s.heap.objs.size
 cK:s.heap.FunFrames base outer
 oX:∀b∈frs outer,H b=Z8
 hok:HOk P w H s.heap
 bare:lu s.gens
def CE (outer:List Env)(P:cu)(w:World)(H:Hp)(s:bb)(Q:VK)(u:Value)(s':bb):Prop:=∃v H',s'.os=s.os/\lu s'.gens/\Un (frs outer) [] H H' s.heap s'.heap/\HOk P w H' s'.heap/\RelV v u/\Q v H'
def CR (CX:CXT)(outer:List Env)(P:cu)(w:World)(H:Hp)(s:bb)(Q:VK)(E:XK)(r:Result)(s':bb):Prop:=
 match r with
 |.ok (.ret u)=>CE outer P w H s Q u s'
 |.ok _=>False
 |.error e=>CX outer H s E e s'
structure FnOk (P:cu)(w:World)(K:Z5)(mg:Str->Option Value)(base:Heap)(CX:CXT)(k:Nat)(f:Addr)(fd:d5)(ps:List Str)(sp:Sp):Prop where
 len:∀vs H Q E,sp vs H Q E->vs.length=ps.length
 run:∀(A:gn) (outer:List Env) (s:bb) (H:Hp) (args:Args) (us:List Value) (vs:List V) (Q:VK) (E:XK),Room k A->lE P w K mg base A outer s H->pe s fd args (ps.zip us)->Vals vs us->sp vs H Q E->jl (model P w) A (.call (.ref f) args) (CR CX outer P w H s Q E) s
theorem lE.make {K:Z5}(e:lE P w K mg base A outer s H)(C:Addr)(a:List Value)(b:List (Str×Value)): lE P w K mg base (A.under (.builtin "type.__call__" ⟨.ref C::a,b⟩)) outer s H:=⟨by first|exact e.frames|(simpa[Around.under,Code.envs,Code.isFrame,pushEnvs]using e.frames),e.mod,e.bs,e.kE,e.cK,e.oX,e.hok,e.bare⟩
theorem Inv.pN (I:Inv X a b H s):lE X.prog X.w X.K X.mg X.base X.A X.stack s H:=⟨I.ok.frames,I.ok.mod,I.bs,bj I.ok.kE I.sz,I.stack,I.gW,I.hok,I.bare⟩
theorem Inv.after (I:Inv X a f H s)(h:CE X.stack X.prog X.w H s Q u e):EP X a f Q u e:=by obtain⟨v,i,os,bare,un,hok,r,q⟩:=h;obtain⟨hh,g,d,t,c⟩:=e;obtain rfl:c=s.os:=os;exact⟨v,i,I.call un hok bare (λb z=>absurd z (by simp)),r,q⟩
def oZ (sp:Sp)(dvs:List V)(E:XK)(t:TA):TE:=λσ H Q=>t σ H λvs H1=>sp (vs++dvs) H1 Q E
def kG (C:Addr)(m:Str)(sp:Sp)(dvs:List V)(E:XK)(ta:TE)(t:TA):TE:=λσ H Q=>ta σ H λx H1=>∃a dx fs,x=.ref a/\H1 a=Z9 (.ins C dx fs)/\fs.lookup m=Z8/\t σ H1 λvs H2=>sp (x::(vs++dvs)) H2 Q E
def xv (C:Addr)(sp:Sp)(dvs:List V)(E:XK)(t:TA):TE:=λσ H Q=>t σ H λvs H1=>∀x dx,H1 x=Z8->H1 dx=Z8->dx≠x->sp (.ref x::(vs++dvs)) (upd (upd H1 dx (.own x)) x (.ins C dx [])) (λv H2=>v=.aO/\Q (.ref x) H2) E
def Binds (K:Z5)(fd:d5)(ps:List Str)(ds:List Value):Prop:=∀(s:bb) (us:List Value),K.In s.heap->(us++ds).length=ps.length->pe s fd ⟨us,[]⟩ (ps.zip (us++ds))
theorem Binds.all {K:Z5}(h:∀a,a.length=ps.length->jg fd ⟨a,[]⟩=pure (ps.zip a)):Binds K fd ps []:=λs a _ b=>by rw[dw]at b ⊢;exact .of_eq (h a b)
def z2c (CX:CXT)(X:Cx)(E:XK):Prop:=∀(pins:List (Addr×Obj)) (σ:St) (H:Hp) (s:bb) (e:Value) (s':bb),Inv X pins σ H s->CX X.stack H s E e s'->X.xe e s'
section
variable {f C:Addr}
theorem z9r (F:FnOk X.prog X.w X.K X.mg X.base j k f fd ps l)(hr:Room k X.A)(m:Binds X.K fd ps d)(hd:Vals dvs d)(n:z2c j X E)
  (I:Inv X a g H s) (r:Vals vs c) (h:l (vs++dvs) H Q E):wpAny (model X.prog X.w) X.A (call (.ref f) c) (EP X a g Q) X.xe s:=by
 have i:=r.append hd;refine nq (i3 (F.run X.A X.stack s H ⟨c,[]⟩ (c++d) (vs++dvs) Q E hr I.pN (m s c I.cL (i.length▸F.len _ _ _ _ h)) i h) λr o b=>?_);cases r with
 |error e=>exact n a g H s e o I b
 |ok fl=>
  cases fl with
  |ret u=>exact I.after b
  |next=>exact False.elim b
  |brk=>exact False.elim b
  |cont=>exact False.elim b
theorem ze8 (F:FnOk X.prog X.w X.K X.mg X.base i k f fd ps j)(hr:Room k X.A)(l:Gl X x)(hm:X.mg x=Z9 (.ref f))(m:Z2 X.K (.ref f)=Z7)(n:Binds X.K fd ps o)(hd:Vals b o)(u:z2c i X E)
  (v:PA X (e::es) t) (c:Xv x:=by decide) (y:dj (e::es) X.env=(Z6,eval e X.env)::dj es X.env:=by rfl) (d:(jn pos (dj es X.env)).any (·.1)=false:=by rfl):
  PE X (.Call (.Name x p) (e::es) [] pos) (oZ j b E t):=by
 intro a s z H Q I h;refine i4 (z44 I l hm ?_ c);refine W.callWith_K I.ok.mod.rT m (aM (v pos a s z H _ I h) λB C ⟨D,G,g,r,q⟩=>⟨g.cL,?_⟩) y d;exact z9r F hr n hd u g r q
structure Mk (K:Z5)(C f:Addr):Prop where
 makes:W.makesIn K C=Z7
 init:Z4 K (.ref C) "__init__"=Z9 (Z9 (.ref f))
 fn:W.isFn K (.ref f)=Z7
 kp:Z2 K (.ref C)=Z7
theorem zh0 (M:Mk X.K C f)(F:FnOk X.prog X.w X.K X.mg X.base o k f fd ps p)(hr:Room (k+1) X.A)(q:Binds X.K fd ps g)(hd:Vals d g)
  (t:z2c o X E) (I:Inv X b j H s) (r:Vals l c)
  (h:∀x dx,H x=Z8->H dx=Z8->dx≠x->p (.ref x::(l++d)) (upd (upd H dx (.own x)) x (.ins C dx [])) (λv y=>v=.aO/\Q (.ref x) y) E):
  wpAny (model X.prog X.w) X.A (call (.ref C) c) (EP X b j Q) X.xe s:=by
 have m:=h (s.heap.objs.size+1) s.heap.objs.size (I.hok.fresh (j5 _)) (I.hok.fresh (ak _)) (cv (iu _));have i:=Inv.made (C:=C) I;have n:Vals (V.ref (s.heap.objs.size+1)::(l++d)) (ZS (s.heap.objs.size+1)::(c++g)):=.cons rfl (r.append hd);have z:(ZS (s.heap.objs.size+1)::c++g).length=ps.length:=by have e:=n.length;rw[F.len _ _ _ _ m]at e;exact e.symm
 refine nq (zgz I.cL M.makes M.init (uc M.fn) (i3 (F.run _ X.stack _ _ ⟨ZS (s.heap.objs.size+1)::c,[]⟩ (ZS (s.heap.objs.size+1)::(c++g)) _ _ E (hr.make C c []) (i.pN.make C c []) (q _ (ZS (s.heap.objs.size+1)::c) i.cL z) n m) λr B a=>?_));cases r with
 |error e=>exact t b j _ _ e B i a
 |ok fl=>
  cases fl with
  |ret u=>obtain⟨v,D,G,J,rfl,L⟩:=i.after a;exact⟨J,V.ref (s.heap.objs.size+1),D,G,rfl,L⟩
  |next=>exact False.elim a
  |brk=>exact False.elim a
  |cont=>exact False.elim a
theorem zlh (M:Mk X.K C f)(F:FnOk X.prog X.w X.K X.mg X.base i k f fd ps j)(hr:Room (k+1) X.A)(l:Gl X x)(hm:X.mg x=Z9 (.ref C))(m:Binds X.K fd ps n)(hd:Vals b n)(o:z2c i X E)
  (u:PA X (e::es) t) (c:Xv x:=by decide) (v:dj (e::es) X.env=(Z6,eval e X.env)::dj es X.env:=by rfl) (d:(jn pos (dj es X.env)).any (·.1)=false:=by rfl):
  PE X (.Call (.Name x p) (e::es) [] pos) (xv C j b E t):=by
 intro a s y H Q I h;refine i4 (z44 I l hm ?_ c);refine W.callWith_K I.ok.mod.rT M.kp (aM (u pos a s y H _ I h) λz B ⟨D,G,g,r,q⟩=>⟨g.cL,?_⟩) v d;exact zh0 M F hr m hd o g r q
end
def PK (X:Cx)(Hm:List nr)(t:TA):Prop:=∀(pos:Pos) (pins:List (Addr×Obj)) (s:bb) (σ:St) (H:Hp) (Q:List V->Hp->Prop),Inv X pins σ H s->t σ H Q->wpAny (model X.prog X.w) X.A (evalAll ((ou pos (k8 Hm X.env)).map (·.2))) (AP X pins σ Q) X.xe s
section
variable {fd:d5}{ps ks:List Str}
theorem N5:PK X [] fF:=λ_ _ _ _ H Q I h=>wpAny_evalAll_nil ⟨[],H,I,.nil,h⟩
theorem N6 (f:PE X e te)(hr:PK X b t):PK X (⟨nm,e,c⟩::b) (oY te t):=by intro pos a s d H Q I h;refine wpAny_evalAll_cons (ah (aM (f a s d H _ I h) λu g ⟨x,i,j,k,l⟩=>ah (il (bv ?_))));exact aM (hr pos a g d i _ j l) λr v ⟨m,n,o,p,q⟩=>⟨x::m,n,o,.cons k p,q⟩
structure KBinds (K:Z5)(fd:d5)(ps ks:List Str)(g:List Value->List Value->List Value)(gV:List V->List V->List V):Prop where
 to:∀(s:bb) (us ws:List Value),K.In s.heap->(g us ws).length=ps.length->pe s fd ⟨us,ks.zip ws⟩ (ps.zip (g us ws))
 rel:∀{vs:List V} {us:List Value} {zs:List V} {ws:List Value},Vals vs us->Vals zs ws->Vals (gV vs zs) (g us ws)
theorem zl1 (F:FnOk X.prog X.w X.K X.mg X.base o k f fd ps p)(hr:Room k X.A)(i:KBinds X.K fd ps ks g j)(q:z2c o X E)
  (I:Inv X a l H s) (r:Vals vs c) (rz:Vals m d) (h:p (j vs m) H Q E):wpAny (model X.prog X.w) X.A (call (.ref f) c (ks.zip d)) (EP X a l Q) X.xe s:=by
 have n:=i.rel r rz;refine nq (i3 (F.run X.A X.stack s H ⟨c,ks.zip d⟩ (g c d) (j vs m) Q E hr I.pN (i.to s c d I.cL (n.length▸F.len _ _ _ _ h)) n h) λr t b=>?_);cases r with
 |error e=>exact q a l H s e t I b
 |ok fl=>
  cases fl with
  |ret u=>exact I.after b
  |next=>exact False.elim b
  |brk=>exact False.elim b
  |cont=>exact False.elim b
end
structure FnScope (N P:List Str)(sc:Scope):Prop where
 kind:sc.kind=.function
 co:sc.isCoroutine=Z6
 gen:sc.isGenerator=Z6
 nd:N.Nodup
 pre:N.take P.length=P
 par:∀x∈P,sc.names.lookup x=Z9 .local\/sc.names.lookup x=Z9 .cell
 uf:∀y∈sc.names,y.2≠.free
theorem Hn {a:Str->Option gx}:∀{binds:List (Str×Value)} {m:Str->Option Value},(∀v,(x,v)∉binds)->bindL a binds m x=m x
 | [],_,_=>rfl
 |(n,v)::r,m,h=>by
  unfold bindL;rw[Hn λw b=>h w (bc _ b)];split
  .have :x≠n:=by rintro rfl;exact h v bg
   simp[this]
  .rfl
theorem Ho {a:Str->Option gx}:∀{binds:List (Str×Value)} {m:Str->Option Value},(∀v,(x,v)∉binds)->bindC a binds m x=m x
 | [],_,_=>rfl
 |(n,v)::r,m,h=>by
  unfold bindC;rw[Ho λw b=>h w (bc _ b)];split
  .rfl
  .have :x≠n:=by rintro rfl;exact h v bg
   simp[this]
theorem z7y {a:Str->Option gx}:∀{P:List Str} {b:List Value} {i:Nat} {m:Str->Option Value},P.Nodup->P[i]?=Z9 x->b[i]?=Z9 v->a x=Z9 .local->
  bindL a (P.zip b) m x=Z9 v
 | [],_,_,_,_,h,_,_=>by simp at h
 |_::_,[],_,_,_,_,h,_=>by simp at h
 |p::P,w::b,0,m,nd,c,d,e=>by simp at c d;subst c;subst d;show bindL a ((p,w)::P.zip b) m p=_;unfold bindL;rw[Hn λv f=>(ef.mp nd).1 (og f).1,tw e];simp
 |p::P,w::b,i+1,m,nd,c,d,e=>by show bindL a ((p,w)::P.zip b) m x=_;exact z7y (ef.mp nd).2 (by simpa using c) (by simpa using d) e
theorem z7e {a:Str->Option gx}:∀{P:List Str} {b:List Value} {i:Nat} {m:Str->Option Value},P.Nodup->P[i]?=Z9 x->b[i]?=Z9 v->a x≠Z9 .local->
  bindC a (P.zip b) m x=Z9 v
 | [],_,_,_,_,h,_,_=>by simp at h
 |_::_,[],_,_,_,_,h,_=>by simp at h
 |p::P,w::b,0,m,nd,c,d,e=>by simp at c d;subst c;subst d;show bindC a ((p,w)::P.zip b) m p=_;unfold bindC;rw[Ho λv f=>(ef.mp nd).1 (og f).1,tx e];simp
 |p::P,w::b,i+1,m,nd,c,d,e=>by show bindC a ((p,w)::P.zip b) m x=_;exact z7e (ef.mp nd).2 (by simpa using c) (by simpa using d) e
def start (N:List Str)(vs:List V):St:=vs.map Z9++ay (N.length-vs.length) Z8
def iF (CX:CXT)(P:cu)(w:World)(K:Z5)(mg:Str->Option Value)(base:Heap)(N:List Str)(qual:Str)(scope:Scope)(f:Addr)(cd:Value)(A:gn)(outer:List Env)(s:bb)(H:Hp)(E:XK):Cx where
 prog:=P
 w:=w
 K:=K
 mg:=mg
 base:=base
 A:=A.deeper (ox qual scope s.heap.objs.size f cd)
 N:=N
 s₀:=s
 iB:=H
 env:=ox qual scope s.heap.objs.size f cd
 outer:=outer
 stack:=ox qual scope s.heap.objs.size f cd::outer
 ex:=[]
 calm:=Z7
 fn:=λ_=>Z7
 pn:=[]
 xe:=λe s'=>wpAny (model P w) (A.deeper (ox qual scope s.heap.objs.size f cd)) (sf (ox qual scope s.heap.objs.size f cd) e) (λ_ ug=>CX outer H s E e ug) (λe' ug=>CX outer H s E e' ug) s'
theorem Hq {sc:Scope}(h:sc.names.lookup x=Z9 .cell):∃c,(cellsFrom n sc.names []).lookup x=Z9 c:=by exact Option.isSome_iff_exists.mp (W.cellsFrom_some sc.names n [] (.inl h))
theorem zdx {K:Z5}
  (S:FnScope N ps scope) (hd:A.handled=Z8) (j:lE P w K mg base A outer s H) (O:n.length=ps.length) (r:Vals n D)
  (x:InCallC s s.heap.objs.size (bindL (ox g scope s.heap.objs.size f cd).kindOf (ps.zip D) λ_=>Z8) (cellsFrom (s.heap.objs.size+1) scope.names []) (bindC (ox g scope s.heap.objs.size f cd).kindOf (ps.zip D) λ_=>Z8) G):
  Inv (iF I P w K mg base N g scope f cd A outer s H E) [] (start N n) H G:=by
 have J:=by have:=congrArg jh S.pre;rw[eh]at this;omega
 obtain⟨B,Q,rfl,F⟩:=x.done;have l:∀b,b∉(iF I P w K mg base N g scope f cd A outer s H E).ex:=λb z=>absurd (show b∈([]:List Addr)from z) (by simp);refine⟨⟨j.mod,S.kind,rfl,rfl,ak _,λy z c B d=>?_,λy m=>?_,λy c _ h=>?_,λ_=>hd,Around.frames_deeper j.frames,.inr ⟨rfl,rfl⟩,λb z=>absurd z (l b),j.bs,j.kE,λb _ _=>l b,λb z=>absurd z (l b),j.cK,j.oX,λ_ _ z=>by cases z⟩,rfl,j.bare,Un.kept F,⟨_,x.toInCall.ns,λi y v B d R=>?_⟩,λy c h=>⟨_,x.cell y c h⟩,j.hok.fresh (ak _),λy c h=>?_,λp o=>absurd (show p∈([]:List (Addr×Obj))from o) (by simp),j.hok.kept F,?_,λ_ _ z=>by cases z⟩
 .exact name_of_addr x.apart (PySem.mem_of_lookup B) (PySem.mem_of_lookup d)
 .have m:scope.names.lookup y=Z9 .cell\/scope.names.lookup y=Z9 .free:=m;rcases m with m|m
  .exact Hq m
  .exact absurd rfl (S.uf _ (PySem.mem_of_lookup m))
 .exact i0 (x.above y c (PySem.mem_of_lookup h))
 .have C:i<n.length:=by
   unfold start at d;by_cases C:i<n.length
   .exact C
   .rw[b8 (by simpa using C)]at d;rw[cz]at d;split at d<;>cases d
  have L:n[i]?=Z9 v:=by
   unfold start at d;rw[cy (by simpa using C),ao]at d;cases e:n[i]? with
   |none=>rw[e]at d;cases d
   |some a=>rw[e]at d;cases d;rfl
  obtain⟨u,hu,M⟩:=r.get L;have o:ps[i]?=Z9 y:=by rw[<-S.pre,jq (by omega)];exact B
  have t:ps.Nodup:=S.pre▸S.nd.sublist (mh _ _);refine⟨u,M,?_⟩;rcases S.par y (aq o)with k|k
  .exact .inl ⟨k,z7y t o hu k⟩
  .obtain⟨c,e⟩:=Hq k;refine .inr ⟨.inl k,c,e,?_⟩;have q:=x.cell y c e;rw[z7e t o hu (by show scope.names.lookup y≠_;rw[k];decide)]at q;exact q
 .exact j.hok.fresh (i0 (x.above y c (PySem.mem_of_lookup h)))
 .unfold start;show _=N.length;rw[aw,ae,b6];omega
theorem zkz {K:Z5}{kV:Value}
  (O:K.lookup f=Z9 ⟨oc,od,.func (Z0 m a params g scope R kV C T an c ct),U⟩) (D:ZZ K c a=Z7) (S:FnScope N ps scope)
  (len:∀h H Q E,I h H Q E->h.length=ps.length)
  (j:∀A outer s H h Q E,Room k (A.deeper (ox a scope s.heap.objs.size f c))->I h H Q E->∃t,PSs (iF L P w K mg base N a scope f c A outer s H E) g t/\t {nx:=λ_ i=>Q .aO i,rt:=Q} (start N h) H):
  FnOk P w K mg base L (k+1) f (Z0 m a params g scope R kV C T an c ct) ps I:=by
 refine⟨len,λA outer s H args X h Q E hr p Y r z=>?_⟩;have M:=p.mod.rT.keeps λb o e=>(p.bs b o e).1
 have l:∀y∈ps.zip X,scope.names.lookup y.1=Z9 .local\/(scope.names.lookup y.1=Z9 .cell/\((cellsFrom (s.heap.objs.size+1) scope.names []).lookup y.1).isSome=Z7):=λ⟨n,v⟩ hy=>by
  rcases S.par n (og hy).1 with q|q
  .exact .inl q
  .exact .inr ⟨q,W.cellsFrom_some _ _ _ (.inl q)⟩
 refine codeAny_call_function hr.depth (M _ _ O) rfl S.co S.gen rfl (W.codeRec_of M D) (Y _ _ _ _ ?_);refine wpAny_newFunctionEnv_cells S.kind l λenv he s1 x=>?_;subst he;refine⟨(p.mod.nolimit.keeps λb o e=>(p.bs b o e).1).keeps x.toInCall.keep,codeAny_func ?_⟩;obtain⟨t,ht,hq⟩:=j A outer s H h Q E (hr.deeper _) z;refine ez (ht [] s1 (start N h) H _ (zdx S hr.hd p (len _ _ _ _ z) r x) hq) (λfl F hs=>?_) λe F hs=>hs;have B:∀{d:St} {i:Hp} {v:V} {u:Value},Inv (iF L P w K mg base N a scope f c A outer s H E) [] d i F->RelV v u->Q v i->CE outer P w H s Q u F:=λ{d i v u} J G q=>⟨v,i,J.os,J.bare,J.base,J.hok,G,q⟩;cases fl with
 |ret u=>obtain⟨v,d,i,J,G,q⟩:=hs;exact B J G q
 |next=>obtain⟨d,i,J,q⟩:=hs;exact B (v:=V.aO) J rfl q
 |brk=>obtain⟨_,_,_,q⟩:=hs;exact False.elim q
 |cont=>obtain⟨_,_,_,q⟩:=hs;exact False.elim q
section
variable {X:Cx}{x:Str}{p pos:Pos}{e:Expr}{es:List Expr}{t:TA}{id:String}{r:List V->Hp->VK->Prop}
def mX (r:List V->Hp->VK->Prop)(t:TA):TE:=λσ H Q=>t σ H λvs H1=>r vs H1 Q
theorem zi1 (hc:CallR X (.builtin id) r)(f:Gl X x)(hm:X.mg x=Z8)(g:dk x=Z9 (.builtin id))(i:PA X (e::es) t)(hn:x≠"__name__":=by decide)(b:Xv x:=by decide)
  (j:dj (e::es) X.env=(Z6,eval e X.env)::dj es X.env:=by rfl) (c:(jn pos (dj es X.env)).any (·.1)=false:=by rfl):PE X (.Call (.Name x p) (e::es) [] pos) (mX r t):=by
 intro a s d H Q I h;refine i4 (z2p I f hm g ?_ hn b);exact PyProof.Rows.callWith_builtin1 (aM (i pos a s d H _ I h) λk l ⟨m,n,o,q,u⟩=>hc a l d n m k Q o q u) j c
theorem zcf (hc:CallR X (.type T) r)(f:Gl X x)(hm:X.mg x=Z8)(g:dk x=Z9 (.type T))(i:PA X (e::es) t)(hn:x≠"__name__":=by decide)(b:Xv x:=by decide)
  (j:dj (e::es) X.env=(Z6,eval e X.env)::dj es X.env:=by rfl) (c:(jn pos (dj es X.env)).any (·.1)=false:=by rfl):PE X (.Call (.Name x p) (e::es) [] pos) (mX r t):=by
 intro a s d H Q I h;refine i4 (z2p I f hm g ?_ hn b);exact PyProof.Rows.callWith_type1 (aM (i pos a s d H _ I h) λk l ⟨m,n,o,q,u⟩=>hc a l d n m k Q o q u) j c
end
section
variable {κ:Type} [DecidableEq κ]
def cM (kvs:List (κ×V))(k:κ):Option V:=(kvs.find? λkv=>decide (kv.1=k)).map (·.2)
def putK (kvs:List (κ×V))(k:κ)(v:V):List (κ×V):=if(kvs.any λkv=>decide (kv.1=k))=Z7 then kvs.map (λkv=>if kv.1=k then(kv.1,v)else kv)else kvs++[(k,v)]
theorem xw {p:κ×V}(e:p.1=k):cM (p::r) k=Z9 p.2:=by simp[cM,et,e]
theorem uh {p:κ×V}(e:¬p.1=k):cM (p::r) k=cM r k:=by simp[cM,et,e]
theorem Hr (k:κ):∀kvs,(kvs.any λa=>decide (a.1=k))=(cM kvs k).isSome
 | []=>rfl
 |p::r=>by
  rw[jr];by_cases e:p.1=k
  .simp only[xw e,ua e,Bool.true_or,Option.isSome_some]
  .rw[uh e,ub e];exact Hr k r
theorem zS (kvs:List (κ×V))(k:κ)(v:V):(putK kvs k v).length<=kvs.length+1:=by
 unfold putK;split
 .rw[ae];omega
 .rw[aw,bh,oh];omega
theorem cA.bY (r:cA o u):o.isSome=u.isSome:=by
 cases o with
 |none=>cases u with
  |none=>rfl
  |some _=>exact r.elim
 |some _=>cases u with
  |none=>exact r.elim
  |some _=>rfl
theorem cA.getD (r:cA o u)(rd:RelV d a):RelV (o.getD d) (u.getD a):=by
 cases o with
 |none=>cases u with
  |none=>exact rd
  |some _=>exact r.elim
 |some _=>cases u with
  |none=>exact r.elim
  |some _=>exact r
theorem KV.val (r:KV kvs f)(k:κ):cA (cM kvs k) (ql f k):=by
 induction r with
 |nil=>exact True.intro
 | @cons p q ps a h t g=>
  obtain⟨d,i⟩:=h;by_cases e:p.1=k
  .have c:q.1=k:=d.symm.trans e;have b:ql (q::a) k=Z9 q.2:=by simp[ql,et,c]
   rw[xw e,b];exact i
  .have c:¬q.1=k:=λz=>e (d.trans z);have b:ql (q::a) k=ql a k:=by simp[ql,et,c]
   rw[uh e,b];exact g
theorem KV.any (r:KV kvs b)(k:κ):(kvs.any λa=>decide (a.1=k))=b.any λa=>decide (a.1=k):=by
 induction r with
 |nil=>rfl
 |cons h t c=>rw[jr,jr,c,h.1]
theorem KV.repl (r:KV kvs c)(k:κ)(d:RelV y u):
  KV (kvs.map λa=>if a.1=k then(a.1,y)else a) (c.map λa=>if a.1=k then(a.1,u)else a):=by
 induction r with
 |nil=>exact .nil
 | @cons p q ps i h t f=>
  rw[br,br];refine .cons ?_ f;obtain⟨b,g⟩:=h;by_cases e:p.1=k
  .rw[tw e,tw (b.symm.trans e)];exact⟨b,d⟩
  .rw[tx e,tx (λz=>e (b.trans z))];exact⟨b,g⟩
theorem KV.put (r:KV kvs a)(k:κ)(b:RelV y u):KV (putK kvs k y) (stored a k u):=by
 unfold putK stored;rw[r.any k];by_cases e:(a.any λc=>decide (c.1=k))=Z7
 .rw[tw e,tw e];exact r.repl k b
 .rw[tx e,tx e];exact Paired.snoc r ⟨rfl,b⟩
theorem KV.length (r:KV kvs vs):kvs.length=vs.length:=Paired.length r
end
theorem rZ (r:RelV (kV k) u):(gT P w).is k u=true:=by
 cases k with
 |inl i=>obtain⟨t,e⟩:=r;subst e;exact Nd P w i t
 |inr x=>obtain⟨t,e⟩:=r;subst e;exact Nf P w x t
theorem Ht:∀{ks:List Key} {a:List Value},Vals (ks.map kV) a->ItemsAre (gT P w) ks a
 | [],_,r=>by rw[List.map_nil]at r;cases r;exact .nil
 |k::ks,_,r=>by
  cases r with
  |cons h t=>exact .cons (rZ h) (Ht t)
abbrev KT (H:Hp):List (List Key×V)->List (List Key×Addr×Value)->Prop:=jv λp q=>p.1=q.1/\H q.2.1=Z9 (.tup (p.1.map kV))/\RelV p.2 q.2.2
theorem KT.val (r:KT H kvs f)(k:List Key):cA (cM kvs k) ((atKey f k).map (·.2)):=by
 induction r with
 |nil=>exact True.intro
 | @cons p q ps a h t g=>
  obtain⟨d,_,i⟩:=h;by_cases e:p.1=k
  .have c:q.1=k:=d.symm.trans e;have b:atKey (q::a) k=Z9 q.2:=by simp[atKey,et,c]
   rw[xw e,b];exact i
  .have c:¬q.1=k:=λz=>e (d.trans z);have b:atKey (q::a) k=atKey a k:=by simp[atKey,et,c]
   rw[uh e,b];exact g
theorem KT.repl (r:KT H kvs d)(k:List Key)(f:RelV y u):
  KT H (kvs.map λb=>if b.1=k then(b.1,y)else b) (d.map (putAt k u)):=by
 induction r with
 |nil=>exact .nil
 | @cons p q ps j h t g=>
  rw[br];refine .cons ?_ g;obtain⟨a,c,i⟩:=h;unfold putAt;by_cases e:p.1=k
  .rw[tw e,tw (a.symm.trans e)];exact⟨a,c,f⟩
  .rw[tx e,tx (λz=>e (a.trans z))];exact⟨a,c,i⟩
theorem KT.put (r:KT H kvs a)(k:List Key)(d:H b=Z9 (.tup (k.map kV)))(c:RelV y u):
  KT H (putK kvs k y) (storedH a k b u):=by
 have e:(kvs.any λf=>decide (f.1=k))=(atKey a k).isSome:=by rw[Hr,(r.val k).bY,jb]
 unfold putK storedH;rw[e];by_cases q:(atKey a k).isSome=Z7
 .rw[tw q,tw q];exact r.repl k c
 .rw[tx q,tx q];exact Paired.snoc r ⟨rfl,d,c⟩
theorem KT.keeps (r:KT H kvs c)(d:∀b a,H b=Z9 (.tup a)->e b=Z9 (.tup a)):KT e kvs c:=Paired.wR r λ_ _ z=>⟨z.1,d _ _ z.2.1,z.2.2⟩
theorem Hu (ok:HOk P w H h)(e:Rd H a u):z1b P w H h a u:=e.ok ok
theorem ui (ok:HOk P w H h)(e:Rd H a (.dK kvs)):kvs.length<=ba/\(a==jc)=Z6/\∃b,KV kvs b/\h.DictOf (gT P w) a b:=show z1b P w H h a (.dK kvs)from Hu ok e
theorem xx (ok:HOk P w H h)(e:H a=Z9 (.dK kvs)):kvs.length<=ba/\(a==jc)=Z6/\∃b,KV kvs b/\h.DictOf (gT P w) a b:=ui ok (.inl e)
theorem vP (ok:HOk P w H h)(e:H a=Z9 (.tup (ks.map kV))):(mv (gT P w)).is h ks a:=by obtain⟨_,b,r,n,c⟩:=(ok a _ e);exact⟨_,b.toArray,n,c,rfl,rfl,by simpa using Ht r⟩
theorem zbs (ok:HOk P w H h)(e:Rd H a (.dT kvs)):kvs.length<=ba/\(a==jc)=Z6/\
  ∃c,KT H kvs c/\h.DictOfH (mv (gT P w)) a c:=by
 obtain⟨z,y,c,r,o,es,ep,f,g,i,j,k⟩:=(Hu ok e);refine⟨z,y,c,r,o,es,ep,f,g,i,j,λx b=>?_,k⟩
 have all:∀{l:List (List Key×V)} {m:List (List Key×Addr×Value)},KT H l m->∀x∈m,(mv (gT P w)).is h x.1 x.2.1:=by
  intro l m q
  induction q with
  |nil=>intro x b;exact nomatch b
  | @cons p q ps s d t n=>
   intro x b;rcases bq.mp b with e|b
   .subst e;exact vP ok (d.1▸d.2.1)
   .exact n x b
 exact all r x b
theorem N7 (ok:HOk P w H h)(e:H a=Z9 (.dT kvs)):kvs.length<=ba/\(a==jc)=Z6/\∃b,KT H kvs b/\h.DictOfH (mv (gT P w)) a b:=zbs ok (.inl e)
def DGet (H:Hp)(a:Addr)(y:V)(r:Option V):Prop:=(∃kvs k,Rd H a (.dK kvs)/\y=kV k/\r=cM kvs k)\/∃kvs k b,Rd H a (.dT kvs)/\y=.ref b/\H b=Z9 (.tup (k.map kV))/\r=cM kvs k
def DPut (H:Hp)(a:Addr)(y v:V)(H':Hp):Prop:=
 (∃kvs k,H a=Z9 (.dK kvs)/\y=kV k/\kvs.length<ba/\H'=upd H a (.dK (putK kvs k v)))\/
 ∃kvs k b,H a=Z9 (.dT kvs)/\y=.ref b/\H b=Z9 (.tup (k.map kV))/\kvs.length<ba/\H'=upd H a (.dT (putK kvs k v))
theorem DGet.k {k:Key}(e:H a=Z9 (.dK kvs)):DGet H a (kV k) (cM kvs k):=.inl ⟨kvs,k,.inl e,rfl,rfl⟩
theorem Inv.big (I:Inv X a σ H s):jc<s.heap.objs.size:=lv dc ((I.mod.glob.keeps I.bk).lt)
theorem z81 (hu:A.units+1<cLine)(I:Inv X f r H s)(g:DGet H a y (Z9 v))(o:RelV y u)(h:∀d q,Inv X f r H q->RelV v d->Q d q):
  wpAny (model X.prog X.w) A (qm (.ref a) u) Q E s:=by
 rcases g with⟨kvs,k,e,i,l⟩|⟨kvs,k,b,e,i,t,l⟩
 .subst i;obtain⟨z,hd,B,rel,j⟩:=ui I.hok e;obtain⟨d,m,c⟩:=cA.some_of (l▸rel.val k);exact wpAny_getItem_of (rZ o) j.mapOf m (h d _ (I.tok _) c)
 .subst i;cases o;obtain⟨z,hd,C,rel,j⟩:=zbs I.hok e;obtain⟨d,m,c⟩:=cA.some_of (l▸rel.val k);obtain⟨p,x,n⟩:=bp.mp m;refine wpAny_getItem_heap (i5 hu) (vP I.hok t) j x ?_;rw[n];exact h d _ (I.tok _) c
theorem d_in (hu:A.units+1<cLine)(I:Inv X c m H s)(g:DGet H a y o)(i:RelV y u)(h:∀j,Inv X c m H j->Q (.bool o.isSome) j):
  wpAny (model X.prog X.w) A (dz .In u (.ref a)) Q E s:=by
 rcases g with⟨kvs,k,e,d,l⟩|⟨kvs,k,b,e,d,n,l⟩
 .subst d;obtain⟨z,hd,p,rel,f⟩:=ui I.hok e;refine wpAny_in_of (rZ i) hd f.mapOf ?_;rw[<-(rel.val k).bY,<-l];exact h _ (I.tok _)
 .subst d;cases i;obtain⟨z,hd,r,rel,f⟩:=zbs I.hok e;refine wpAny_in_heap (i5 hu) (vP I.hok n) hd f ?_;have q:=(rel.val k).bY;rw[jb]at q;rw[<-q,<-l];exact h _ (I.tok _)
theorem zka (hu:A.units+1<cLine)(I:Inv X c m H s)(g:DGet H a y o)(i:RelV y u)(h:∀j,Inv X c m H j->Q (.bool (!o.isSome)) j):
  wpAny (model X.prog X.w) A (dz .NotIn u (.ref a)) Q E s:=by
 rcases g with⟨kvs,k,e,d,l⟩|⟨kvs,k,b,e,d,n,l⟩
 .subst d;obtain⟨z,hd,p,rel,f⟩:=ui I.hok e;refine wpAny_notIn_of (rZ i) hd f.mapOf ?_;rw[<-(rel.val k).bY,<-l];exact h _ (I.tok _)
 .subst d;cases i;obtain⟨z,hd,r,rel,f⟩:=zbs I.hok e;refine wpAny_notIn_heap (i5 hu) (vP I.hok n) hd f ?_;have q:=(rel.val k).bY;rw[jb]at q;rw[<-q,<-l];exact h _ (I.tok _)
theorem z5r (I:Inv X c e H s)(f:Mut (H a))(hs:gq a s.heap d)(g:∃q,d.get? a=Z9 q)(new:z1b X.prog X.w (upd H a ob) d a ob):
  Inv X c e (upd H a ob) {s with heap:=d,toks:=t'}:=
 I.write f (.inl rfl) (λb q h z=>(hs.2 b h).trans z) g new
theorem Ca (z:kvs.length<=ba)(hd:(a==jc)=Z6)(rel:KV kvs b)(c:d.DictOf (gT P w) a b): z1b P w e d a (.dK kvs):=⟨z,hd,b,rel,c⟩
theorem zeb (hu:A.units+1<cLine)(I:Inv X f C H s)(g:DPut H a y v D)(o:RelV y u)(p:RelV v r)(h:∀t,Inv X f C D t->Q () t):
  wpAny (model X.prog X.w) A (setItem (.ref a) u r) Q E s:=by
 rcases g with⟨kvs,k,e,j,l,m⟩|⟨kvs,k,b,e,j,x,l,m⟩
 .subst j m;obtain⟨z,hd,F,rel,n⟩:=xx I.hok e;have G:F.length<=ba:=rel.length▸z;exact wpAny_setItem_pairs (rZ o) n λJ d hs=>h _ (z5r I (e▸True.intro) hs (let⟨q,_,_,i,_⟩:=d;⟨q,i⟩) (Ca (by have:=zS kvs k v;omega) hd (rel.put k p) d))
 .subst j m;cases o;obtain⟨z,hd,K,rel,n⟩:=N7 I.hok e;have G:K.length<=ba:=Paired.length rel▸z;refine wpAny_setItem_heap (i5 hu) (vP I.hok x) n λJ d hs=>h _ ?_;obtain⟨q,es,ep,i,L,M,N,_,O⟩:=d;refine z5r I (e▸True.intro) hs ⟨q,i⟩ ⟨(by have:=zS kvs k v;omega),hd,_,(rel.put k x p).keeps λc P B=>?_,q,es,ep,i,L,M,N,O⟩;rw[aG (Ng B e (λz=>nomatch z))];exact B
theorem N8 (I:Inv X b d H s)(e:Rd H a (.dK kvs))(h:∀t c,Inv X b d H c->Q (.int kvs.length t) c):wpAny (model X.prog X.w) A (call (.builtin "len") [.ref a]) Q E s:=by obtain⟨z,hd,g,rel,f⟩:=ui I.hok e;refine call_len_dict hd f (by rw[<-rel.length];rw[cb]at z;omega) ?_;rw[<-rel.length];exact h _ _ (I.tok _)
def uj (i:Expr):Prop:=∀ov iv,oy i Z6 ov iv=operate [ov,iv] (qm ov iv)
theorem zkt {id:String}
  (j:sr (.type T) "__getitem__"=pure (Z9 (.builtin id))) (hs:uj slice)
  (h:wpAny (model prog w) A (eval value env) (λo c=>wpAny (model prog w) A (eval slice env) (λi a=>a.TypeIs o T/\wpAny (model prog w) A (qm o i) Q E a) E c) E s):
  wpAny (model prog w) A (eval (.Subscript value slice pos) env) Q E s:=by
 refine sw (ez h (λo c f=>ez f (λi a b=>?_) λ_ _ x=>x) λ_ _ x=>x);obtain⟨k,b⟩:=b;refine ah (ah (wpAny_specialOf k j ?_));have e:wpAny (model prog w) A (oy slice Z6 o i) (λr d=>wpAny (model prog w) A (letTemporaryGo value o r>>=λ_=>pure r) Q E d) E a:=by rw[hs o i];exact wpAny_operating (ez b (λr d g=>ah (wpAny_letTemporaryGo (bv g))) λ_ _ x=>x)
 first
  |exact bv (ah e)
  |exact ah (bv (ah e))
  |exact ah e
theorem Hv (I:Inv X d f H s)(g:DGet H a y o):s.TypeIs (.ref a) "dict":=by
 rcases g with⟨kvs,k,e,_,_⟩|⟨kvs,k,b,e,_,_,_⟩
 .obtain⟨_,_,h,_,c⟩:=ui I.hok e;exact c.typeIs
 .obtain⟨_,_,i,_,c⟩:=zbs I.hok e;exact c.typeIs
def Hw (td ty:TE):TE:=λσ H Q=>td σ H λx H1=>ty σ H1 λy H2=>∃a v,x=.ref a/\DGet H2 a y (Z9 v)/\Q v H2
theorem N9 (hu:X.A.units+1<cLine)(f:PE X o j)(k:PE X i ty)(hs:uj i):PE X (.Subscript o i pos) (Hw j ty):=by intro b s d H Q I h;refine zkt PySem.F.slot_dict_getitem.lookup hs (aM (f b s d H _ I h) λu l ⟨x,m,n,p,q⟩=>aM (k b l d m _ n q) λB C ⟨y,r,e,t,a,v,ex,g,w⟩=>?_);subst ex;obtain rfl:u=ZS a:=p;exact⟨Hv e g,z81 hu e g t λD E z c=>⟨v,r,z,c,w⟩⟩
theorem Cb (h:Heap)(a:jc<h.objs.size):z1b P w H (h.push {cls:=.type "dict",data:=.dict #[]}) h.objs.size (.dK []):=⟨c9 _,beq_eq_false_iff_ne.mpr (Ne.symm (cv a)),[],.nil,Heap.DictOf.new h⟩
def Hx:TE:=λ_ H Q=>∀p,H p=Z8->Q (.ref p) (upd H p (.dK []))
theorem Hy:PE X (.Dict [] [] pos) Hx:=λa s b H Q I h=>wpAny_Dict_empty ⟨.ref s.heap.objs.size,_,I.laid (λ_ _ q=>am _ q) (ak _) (Cb s.heap I.big),rfl,h _ (I.hok.fresh (ak _))⟩
def Cc:List (TE×TE)->St->Hp->(List (V×V)->Hp->Prop)->Prop
 | [],_,H,Q=>Q [] H
 |(tk,tv)::r,σ,H,Q=>tk σ H λx H1=>tv σ H1 λy H2=>Cc r σ H2 λps H3=>Q ((x,y)::ps) H3
abbrev VV:List (V×V)->List (Value×Value)->Prop:=jv λp q=>RelV p.1 q.1/\RelV p.2 q.2
def PPs (X:Cx)(pos:Pos)(keys:List (Option Expr))(values:List Expr)(Cd:List (TE×TE)):Prop:=∀(pins:List (Addr×Obj)) (s:bb) (σ:St) (H:Hp) (Q:List (V×V)->Hp->Prop),Inv X pins σ H s->Cc Cd σ H Q->wpAny (model X.prog X.w) X.A (evalPairs (pairTrees keys values X.env pos)) (λvs s'=>∃ps H',Inv X pins σ H' s'/\VV ps vs/\Q ps H') X.xe s
theorem Oa:PPs X pos [] [] []:=λa s b H Q I h=>pairTrees_nil_walk ⟨[],H,I,.nil,h⟩
theorem z40 (d:PE X k e)(f:PE X v tv)(hr:PPs X pos ks g b):
  PPs X pos (Z9 k::ks) (v::g) ((e,tv)::b):=λa s c H Q I h=>
 pairTrees_cons_walk (aM (d a s c H _ I h) λu i ⟨x,j,l,m,n⟩=>aM (f a i c j _ l n) λB o ⟨y,p,q,r,t⟩=>aM (hr a o c p _ q t) λC D ⟨ps,w,z,rel,A⟩=>⟨(x,y)::ps,w,z,.cons ⟨m,r⟩ rel,A⟩)
def um (kvs more:List (Key×V)):List (Key×V):=more.foldl (λacc kv=>putK acc kv.1 kv.2) kvs
theorem KV.merge:∀{a:List (Key×V)} {rs:List (Key×Value)} {kvs:List (Key×V)} {b:List (Key×Value)},KV a rs->KV kvs b->KV (um kvs a) (merged b rs):=by
 intro a rs kvs b r
 induction r generalizing kvs b with
 |nil=>intro q;exact q
 | @cons p q ps d h t c=>
  intro r0;have e:KV (putK kvs p.1 p.2) (stored b q.1 q.2):=by have:=r0.put p.1 h.2;rw[<-h.1];exact this
  exact c e
theorem Hz:∀a kvs,(um kvs a).length<=kvs.length+a.length
 | [],kvs=>by show kvs.length<=kvs.length+0;omega
 |p::r,kvs=>by have b:=Hz r (putK kvs p.1 p.2);have c:=zS kvs p.1 p.2;show(um (putK kvs p.1 p.2) r).length<=_;rw[bh];omega
theorem HE:∀{kvs:List (Key×V)} {d:List (Value×Value)},VV (kvs.map λe=>(kV e.1,e.2)) d->∃rs,Carries (gT P w) d rs/\KV kvs rs
 | [],_,r=>by rw[List.map_nil]at r;cases r;exact⟨[],True.intro,.nil⟩
 |p::kvs,_,r=>by
  cases r with
  | @cons a b as bs h t=>obtain⟨rs,c,q⟩:=HE t;obtain⟨g,f⟩:=b;exact⟨(p.1,f)::rs,⟨rZ h.1,rfl,c⟩,.cons ⟨rfl,h.2⟩ q⟩
def HF (Cd:List (TE×TE)):TE:=λσ H Q=>∀p,H p=Z8->Cc Cd σ (upd H p (.dK [])) λps H2=>H2 p=Z9 (.dK [])/\∃kvs:List (Key×V),ps=kvs.map (λkv=>(kV kv.1,kv.2))/\kvs.length<=15/\Q (.ref p) (upd H2 p (.dK (um [] kvs)))
theorem zjv (h:PPs X pos a values g)(b:a.all (·.isSome)=Z7)(k:a.length=values.length)(h0:a≠[])
  (i:a.length<=15):PE X (.Dict a values pos) (HF g):=by
 intro d s l H Q I q;refine wpAny_Dict_walk (knd:=gT X.prog X.w) b k h0 i (aM (h d _ l _ _ (I.laid (t':=s.toks) (λ_ _ q=>am _ q) (ak _) (Cb s.heap I.big)) (q _ (I.hok.fresh (ak s.heap.objs.size)))) λt u ⟨ps,v,j,rel,e,kvs,ep,x,m⟩=>?_);subst ep;obtain⟨rs,c,rk⟩:=HE rel;obtain⟨z,hd,n,r0,o⟩:=xx j.hok e;cases r0;refine⟨rs,c,o,λy f hs=>⟨.ref s.heap.objs.size,_,?_,rfl,m⟩⟩;have p:(um [] kvs).length<=ba:=by have r:=Hz kvs [];rw[oh]at r;rw[cb];omega
 exact z5r j (e▸True.intro) hs (let⟨q,_,_,hq,_⟩:=f;⟨q,hq⟩) (Ca p hd (rk.merge .nil) f)
theorem zrn (hu:A.units+1<cLine)(I:Inv X c p H s)(g:DGet H a y o)(j:RelV y u)(rd:RelV d r)(h:∀m n,Inv X c p H n->RelV (o.getD d) m->Q m n):
  wpAny (model X.prog X.w) A (call (.builtin "dict.get") [.ref a,u,r]) Q E s:=by
 rcases g with⟨kvs,k,e,i,l⟩|⟨kvs,k,b,e,i,q,l⟩
 .subst i;obtain⟨z,hd,v,rel,f⟩:=ui I.hok e;refine qo PySem.F.slot_dict_get f.typeIs PySem.F.entry_dict_get (PySem.F.args_dict_get_3 _ _ _) (meets_dict_get_default (gT X.prog X.w) a (rZ j) hd r) ⟨_,f.mapOf,h _ _ (I.tok _) ?_⟩;rw[l];exact(rel.val k).getD rd
 .subst i;cases j;obtain⟨z,hd,t,rel,f⟩:=zbs I.hok e;refine qo PySem.F.slot_dict_get f.typeIs PySem.F.entry_dict_get (PySem.F.args_dict_get_3 _ _ _) (meetsH_dict_get_default (mv (gT X.prog X.w)) a b hd r) ⟨i5 hu,k,t,vP I.hok q,f,h _ _ (I.tok _) ?_⟩;rw[l];exact(rel.val k).getD rd
end L2
namespace HT
open PySem PyProof.Rows
def dO (n d:Nat):Option Int->Nat
 |none=>d
 |some v=>if v<0 then(v+(n:Int)).toNat else min v.toNat n
theorem uo (n d:Nat)(hd:d<=n)(o:Option Int):dO n d o<=n:=by
 cases o with
 |none=>exact hd
 |some v=>
  show(if v<0 then(v+n).toNat else min v.toNat n)<=n;by_cases a:v<0
  .rw[tw a];omega
  .rw[tx a];exact Nat.min_le_right _ _
end HT
namespace L2
open PySem PySem.Spec PyProof.Rows
abbrev TO:=St->Hp->(Option Int->Hp->Prop)->Prop
def PO (X:Cx)(e:Option Expr)(t:TO):Prop:=∀(pins:List (Addr×Obj)) (s:bb) (σ:St) (H:Hp) (Q:Option Int->Hp->Prop),Inv X pins σ H s->t σ H Q->wpAny (model X.prog X.w) X.A (evalPart e X.env) (λu s'=>∃o H',Inv X pins σ H' s'/\IsPart u o/\Q o H') X.xe s
def Ob:TO:=λ_ H Q=>Q Z8 H
def Oc (t:TE):TO:=λσ H Q=>t σ H λx H1=>∃i,x=.int i/\Q (Z9 i) H1
section
variable {X:Cx}{e:Expr}{te:TE}{lo hi:Option Expr}{tl th:TO}{pos p2:Pos}
theorem Od:PO X Z8 Ob:=by intro a s b H Q I h;exact bv ⟨Z8,H,I,.none,h⟩
theorem Oe (h:PE X e te):PO X (Z9 e) (Oc te):=by intro a s b H Q I c;refine aM (h a s b H _ I c) λu k ⟨x,d,f,g,j⟩=>?_;obtain⟨i,rfl,q⟩:=j;obtain⟨t,rfl⟩:=g;exact⟨Z9 i,d,f,.int i t,q⟩
def pO (X:Cx)(r:V->Option Int->Option Int->Hp->VK->Prop):Prop:=∀(pins:List (Addr×Obj)) (s:bb) (σ:St) (H:Hp) (x:V) (v vl vu:Value) (lo hi:Option Int) (sl:Addr) (Q:VK),Inv X pins σ H s->RelV x v->s.heap.IsSliceOf sl vl vu .none->IsPart vl lo->IsPart vu hi->r x lo hi H Q->∃T id,sr (.type T) "__getitem__"=pure (Z9 (.builtin id))/\s.TypeIs v T/\wpAny (model X.prog X.w) X.A (qm v (.ref sl)) (EP X pins σ Q) X.xe s
theorem pO.or (h:pO X r)(g:pO X i):pO X (λx lo hi H Q=>r x lo hi H Q\/i x lo hi H Q):=by
 intro a s b H x v c d lo hi sl Q I e hs pl f q;rcases q with q|q
 .exact h a s b H x v c d lo hi sl Q I e hs pl f q
 .exact g a s b H x v c d lo hi sl Q I e hs pl f q
def Of (r:V->Option Int->Option Int->Hp->VK->Prop)(te:TE)(tl th:TO):TE:=λσ H Q=>te σ H λx H1=>tl σ H1 λl H2=>th σ H2 λu H3=>r x l u H3 Q
theorem Og (hr:pO X r)(j:PE X e te)(k:PO X lo tl)(hu:PO X hi th):PE X (.Subscript e (.Slice lo hi Z8 p2) pos) (Of r te tl th):=by
 intro a s c H Q I h;refine sw (aM (j a s c H _ I h) ?_)
 rintro v m ⟨x,n,o,p,t⟩
 refine wpAny_Slice (aM (k a m c n _ o t) λf w ⟨l,y,z,pl,A⟩=>aM (hu a w c y _ z A) ?_)
 rintro g d ⟨u,i,B,C,D⟩
 refine bv ?_;have E:Inv X a c i {d with heap:=d.heap.push {cls:=.type "slice",data:=.fields #[f,g,.none]}}:=B.kept λb ob q=>am _ q;obtain⟨T,id,F,G,J⟩:=hr a {d with heap:=d.heap.push {cls:=.type "slice",data:=.fields #[f,g,.none]}} c i x v f g l u d.heap.objs.size Q E p (Heap.IsSliceOf.new ..) pl C D;exact tail_any G F J (by with_unfolding_all rfl)
def mY (xs:List V)(lo hi:Option Int):List V:=(xs.drop (HT.dO xs.length 0 lo)).take (HT.dO xs.length xs.length hi-HT.dO xs.length 0 lo)
theorem Oh (a:List V)(lo hi:Option Int):(mY a lo hi).length<=a.length:=by unfold mY;rw[eh,List.length_drop];omega
end
def gE (n:Nat)(i:Int):Option Nat:=if 0<=i then(if i<n then Z9 i.toNat else Z8)else if -(n:Int)<=i then Z9 (i+n).toNat else Z8
def bT {α:Type}(xs:List α)(i:Int):Option α:=(gE xs.length i).bind λj=>xs[j]?
theorem HG (h:gE n i=Z9 j):seqIndex? i n=Z9 j/\j<n/\-(n:Int)<=i/\i<n:=by
 unfold gE at h;by_cases h0:0<=i
 .rw[tw h0]at h;by_cases a:i<n
  .rw[tw a]at h;have e:=tz h;exact⟨by rw[ro h0 a,e],by omega,by omega,a⟩
  .rw[tx a]at h;cases h
 .rw[tx h0]at h;by_cases a:-n<=i
  .rw[tw a]at h;have e:=tz h;exact⟨by rw[qp (by omega) a,e],by omega,a,by omega⟩
  .rw[tx a]at h;cases h
theorem Ce (h:bT a i=Z9 v):∃j,seqIndex? i a.length=Z9 j/\a[j]?=Z9 v/\j<a.length/\-(a.length:Int)<=i/\i<a.length:=by
 unfold bT at h;cases e:gE a.length i with
 |none=>rw[e]at h;cases h
 |some j=>rw[e]at h;obtain⟨b,c,d,f⟩:=HG e;exact⟨j,b,h,c,d,f⟩
def HH (b:Expr):Prop:=∀o i,oy b Z6 o i=operate [o,i] (qm o i)
def mH (X:Cx)(r:R2):Prop:=∀(value slice:Expr) (pins:List (Addr×Obj)) (s:bb) (σ:St) (H:Hp) (x y:V) (v u:Value) (Q:VK),Inv X pins σ H s->RelV x v->RelV y u->r x y H Q->oy slice Z6 v u=operate [v,u] (qm v u)->wpAny (model X.prog X.w) X.A (subscriptTail value slice v u) (EP X pins σ Q) X.xe s
def MtR (X:Cx)(id:String)(r:V->List V->Hp->VK->Prop):Prop:=∀(pins:List (Addr×Obj)) (s:bb) (σ:St) (H:Hp) (x:V) (xs:List V) (v:Value) (us:List Value) (Q:VK),Inv X pins σ H s->RelV x v->Vals xs us->r x xs H Q->wpAny (model X.prog X.w) X.A (call (.builtin id) (v::us)) (EP X pins σ Q) X.xe s
section
variable {X:Cx}
theorem mH.or (h:mH X r)(g:mH X i):mH X (λx y H Q=>r x y H Q\/i x y H Q):=by
 intro a b c s d H x y v u Q I e f q hs;rcases q with q|q
 .exact h a b c s d H x y v u Q I e f q hs
 .exact g a b c s d H x y v u Q I e f q hs
theorem Cf (hr:mH X r)(d:PE X a e)(f:PE X b g)(hs:HH b):PE X (.Subscript a b pos) (kF r e g):=by intro c s i H Q I h;exact sw (binT d f I h λv u j x y k l m n q=>hr a b c j i k x y v u Q l m n q (hs _ _))
def xy (K:Z5):R2:=λx y H Q=>∃p xs i v,x=.ref p/\y=.int i/\SqL K H p xs/\bT xs i=Z9 v/\Q v H
def xA (K:Z5):R2:=λx y H Q=>∃p xs i v,x=.ref p/\y=.int i/\dD K H p xs/\bT xs i=Z9 v/\Q v H
def xB:R2:=λx y H Q=>∃z i c,x=.str z/\y=.int i/\z.length<=ba/\bT z.cps.toList i=Z9 c/\Q (.str ⟨#[c]⟩) H
theorem Oi:mH X (xy X.K):=by
 intro d e a s m H x y v u Q I n o h hs;obtain⟨p,G,i,z,rfl,rfl,A,B,q⟩:=h;cases n;obtain⟨t,rfl⟩:=o;obtain⟨f,r,pl,J⟩:=I.list A;obtain⟨j,c,C,L,D,E⟩:=Ce B;obtain⟨w,l,g⟩:=r.get C;have F:=r.length;have hn:=tZ;have b:EP X a m Q w s:=⟨z,H,I,g,q⟩;by_cases h0:0<=i
 .have k:i.toNat=j:=by
   rw[ro h0 E]at c;exact tz c
  exact item_listR pl.isList h0 (by omega) (by rw[k];simpa using l) b hs
 .have k:(i+f.toArray.size).toNat=j:=by
   rw[qp (by omega) D]at c;rw[c8,<-F];exact tz c
  exact nv pl.isList.typeIs slot_list_getitem.lookup (wpAny_getItem_list_neg pl.isList (by omega) (by rw[c8]<;>omega) (by omega) (by rw[k];simpa using l) ⟨rfl,b⟩) hs
theorem Oj:mH X (xA X.K):=by intro a b d s A H x y v u Q I e f h hs;obtain⟨p,B,i,z,rfl,rfl,g,k,q⟩:=h;cases e;obtain⟨t,rfl⟩:=f;obtain⟨l,r,pl,C⟩:=I.tuple g;obtain⟨j,m,n,D,E,F⟩:=Ce k;obtain⟨w,o,c⟩:=r.get n;have hn:=tZ;exact nv pl.typeIs slot_tuple_getitem.lookup (getItem_tuple pl (by omega) (by omega) (by rw[c8,<-r.length];exact m) (by simpa using o) ⟨rfl,⟨z,H,I,c,q⟩⟩) hs
theorem Cg:mH X xB:=by
 intro a b d s p H x y v u Q I f g h hs;obtain⟨z,i,c,rfl,rfl,r,k,q⟩:=h;obtain⟨t,rfl⟩:=f;obtain⟨w,rfl⟩:=g;obtain⟨j,e,l,A,m,n⟩:=Ce k;have o:z.cps.toList.length=z.length:=by simp[Str.length]
 rw[o]at e m n;have hn:=tZ;exact tail_any (sx s z t) slot_str_getitem.lookup (getItem_str (by rw[ub (by omega),ub (by omega),p8]) (by rw[e];simpa using l) ⟨.str ⟨#[c]⟩,H,I.tok _,⟨_,rfl⟩,q⟩) hs
def xE (K:Z5):R2:=λx y H Q=>xy K x y H Q\/xA K x y H Q\/xB x y H Q
theorem HI:mH X (xE X.K):=Oi.or (Oj.or Cg)
theorem Ol (a:List Value)(n j:Nat)(u:Value):Obj.mapSeq (·.setIfInBounds j u) {cls:=.type "list",data:=.seq a.toArray n}={cls:=.type "list",data:=.seq (a.set j u).toArray n}:=by simp[Obj.mapSeq]
theorem Inv.lst {b:List (Addr×Obj)}{σ:St}{H:Hp}{s:bb}{p:Addr}{xs:List V}(I:Inv X b σ H s)(h:H p=Z9 (.lst xs)):
  ∃a n,Vals xs a/\s.heap.get? p=Z9 {cls:=.type "list",data:=.seq a.toArray n}/\xs.length<=ba:=by
 obtain⟨z,a,n,r,e⟩:=I.hok p _ h;exact⟨a,n,r,e,z⟩
theorem Inv.lstUpd {a:List Value}(I:Inv X c d H s)(h:H p=Z9 (.lst k))
  (g:s.heap.get? p=Z9 {cls:=.type "list",data:=.seq a.toArray n}) (hf:f {cls:=.type "list",data:=.seq a.toArray n}={cls:=.type "list",data:=.seq lF.toArray n'}) (r:Vals ys lF) (i:ys.length<=ba) t:
  Inv X c d (upd H p (.lst ys)) {s with heap:=s.heap.update p f,toks:=t}:=by
 have e:(s.heap.update p f).get? p=Z9 {cls:=.type "list",data:=.seq lF.toArray n'}:=by rw[g7 f g (by rw[hf]<;>rfl),hf]
 refine I.write (by rw[h];trivial) (.inl rfl) (λb u j q=>(fg _ _ (Ne.symm j)).trans q) ⟨_,e⟩ ?_;exact⟨i,lF,n',r,e⟩
def HJ:V->V->V->Hp->(Hp->Prop)->Prop:=λo i v H Q=>∃p xs k j,o=.ref p/\i=.int k/\H p=Z9 (.lst xs)/\gE xs.length k=Z9 j/\Q (upd H p (.lst (xs.set j v)))
theorem set_list:BZ X HJ:=by
 rintro a s w H o i v ov D u Q I x y z ⟨p,A,k,j,rfl,rfl,g,B,q⟩
 cases x;obtain⟨t,rfl⟩:=y;obtain⟨b,n,r,d,C⟩:=I.lst g;obtain⟨c,E,h,l⟩:=HG B;have e:=r.length;have hn:=tZ;have m:Inv X a w (upd H p (.lst (A.set j v))) {s with heap:=s.heap.update p (Obj.mapSeq (·.setIfInBounds j u))}:=I.lstUpd g d (Ol b n j u) (r.set z j) (by rw[cw];exact C) s.toks;by_cases h0:0<=k
 .have f:k.toNat=j:=by
   rw[ro h0 l]at c;exact tz c
  exact W.ki_setAt d h0 (by omega) (by rw[c8,<-e];exact l) (f▸⟨_,m,q⟩)
 .have f:(k+b.toArray.size).toNat=j:=by
   rw[qp (by omega) h]at c;rw[c8,<-e];exact tz c
  exact W.ki_setBack d (by omega) (by rw[c8,<-e];exact h) (by omega) (f▸⟨_,m,q⟩)
theorem Om (a b:Option Int)(n:Nat):(j6 a b Z8 n).1=((HT.dO n 0 a:Nat):Int)/\(j6 a b Z8 n).2.1=((HT.dO n n b:Nat):Int)/\(j6 a b Z8 n).2.2=1:=by
 refine⟨?_,?_,rfl⟩
 .cases a with
  |none=>simp[j6,HT.dO]
  |some i=>
   simp only[j6,HT.dO,Option.getD_none,show 1>0 by decide,if_true];by_cases h:i<0
   .simp only[h,if_true]<;>omega
   .simp only[h,if_false]<;>omega
 .cases b with
  |none=>simp[j6,HT.dO]
  |some i=>
   simp only[j6,HT.dO,Option.getD_none,show 1>0 by decide,if_true];by_cases h:i<0
   .simp only[h,if_true]<;>omega
   .simp only[h,if_false]<;>omega
theorem Oq (a:List Value)(b c:Option Int):slicePick a.toArray b c Z8=((a.drop (HT.dO a.length 0 b)).take (HT.dO a.length a.length c-HT.dO a.length 0 b)).toArray:=by obtain⟨d,e,f⟩:=Om b c a.toArray.size;unfold slicePick;rw[d,e,f];simp only[oz,pick_run,c8]<;>rfl
def xF (K:Z5):V->Option Int->Option Int->Hp->VK->Prop:=λx lo hi H Q=>∃a xs,x=.ref a/\SqL K H a xs/\∀p,H p=Z8->Q (.ref p) (upd H p (.lst (mY xs lo hi)))
theorem Ot:pO X (xF X.K):=by
 rintro f s n H x v o p e g sl Q I i hs pl j ⟨a,c,rfl,k,q⟩
 cases i;obtain⟨l,r,h,m⟩:=I.list k;have d:=r.length;refine⟨"list",_,slot_list_getitem.lookup,h.isList.typeIs,?_⟩;refine wpAny_getItem_list_slice h.isList hs pl j .none (by simp) ?_ (by rw[c8]<;>omega);rw[Oq,<-d];refine⟨.ref s.heap.objs.size,_,I.laid (λb ob q=>am _ q) (ak _) ?_,rfl,q _ (I.hok.fresh (ak _))⟩;exact⟨bj (Oh c e g) m,_,0,(r.drop (HT.dO c.length 0 e)).take (HT.dO c.length c.length g-HT.dO c.length 0 e),bx _ rfl⟩
theorem Ou:CallR X (.builtin "len") (λf H Q=>∃p b,f=[.ref p]/\(SqL X.K H p b\/dD X.K H p b)/\Q (.int b.length) H):=by
 rintro g s i H f j Q I r ⟨p,b,rfl,c,q⟩
 obtain⟨u,rfl,rfl⟩:=vals1 r;have hn:=tZ;rcases c with c|c
 .obtain⟨d,e,pl,h⟩:=I.list c;have a:=e.length;exact Calls.call_len_list pl.isList (by simp<;>omega) ⟨.int b.length,H,I.tok _,⟨s.toks+1,by rw[c8,a]⟩,q⟩
 .obtain⟨d,e,pl,h⟩:=I.tuple c;have a:=e.length;exact len_tuple pl (by simp<;>omega) ⟨.int b.length,H,I.tok _,⟨s.toks+1,by rw[c8,a]⟩,q⟩
theorem Ov:CallR X (.builtin "len") (λa H Q=>∃z,a=[.str z]/\z.length<=ba/\Q (.int z.length) H):=by
 rintro b s c H a d Q I r ⟨z,rfl,e,q⟩
 obtain⟨u,rfl,t,rfl⟩:=vals1 r;have hn:=tZ;exact len_str (by omega) ⟨.int z.length,H,I.tok _,⟨_,rfl⟩,q⟩
theorem CallR.or (h:CallR X f r)(e:CallR X f g):CallR X f (λb H Q=>r b H Q\/g b H Q):=by
 intro a s c H b d Q I rs q;rcases q with q|q
 .exact h a s c H b d Q I rs q
 .exact e a s c H b d Q I rs q
theorem Ox:CallR X (.type "list") (λv H Q=>∃p d,v=[.ref p]/\(SqL X.K H p d\/dD X.K H p d)/\∀l,H l=Z8->Q (.ref l) (upd H l (.lst d))):=by
 rintro h s y H v z Q I r ⟨p,d,rfl,i,q⟩
 obtain⟨u,rfl,rfl⟩:=vals1 r
 have j:∀a,Vals d a->d.length<=ba->∀c f,(∀b x,s.heap.get? b=Z9 x->c.get? b=Z9 x)->
   c.get? s.heap.objs.size=Z9 {cls:=.type "list",dict:=Z8,data:=.seq a.toArray f,slots:=#[]}->EP X h y Q (.ref s.heap.objs.size) {s with heap:=c}:=λa g k c f kp e=>
  ⟨.ref s.heap.objs.size,_,I.laid kp (ak _) (show z1b X.prog X.w _ c _ (.lst d)from⟨k,a,f,g,e⟩),rfl,q _ (I.hok.fresh (ak _))⟩
 rcases i with i|i
 .obtain⟨a,g,pl,k⟩:=I.list i;have m:=g.length;obtain⟨o,t,hc,n,hd⟩:=pl.isList;exact call_list_seq p (.inl rfl) t hc hd (λc f kp e=>j a g k c f kp e) (by simp<;>omega)
 .obtain⟨a,g,pl,k⟩:=I.tuple i;have m:=g.length;obtain⟨o,t,hc,n,hd⟩:=pl;exact call_list_seq p (.inr rfl) t hc hd (λc f kp e=>j a g k c f kp e) (by simp<;>omega)
theorem Oy:CallR X (.type "tuple") (λj H Q=>∃p d,j=[.ref p]/\((SqL X.K H p d/\∀l,H l=Z8->Q (.ref l) (upd H l (.tup d)))\/(dD X.K H p d/\Q (.ref p) H))):=by
 rintro a s k H j w Q I r ⟨p,d,rfl,h⟩
 obtain⟨u,rfl,rfl⟩:=vals1 r;rcases h with⟨g,q⟩|⟨g,q⟩
 .obtain⟨c,i,pl,m⟩:=I.list g;have n:=i.length;refine call_tuple_list pl.isList (λf kp=>?_) (by simp<;>omega);have t:Inv X a k H {s with heap:=f}:=I.kept kp;have v:Inv X a k (upd H f.objs.size (.tup d)) {s with heap:=f.push {cls:=.type "tuple",data:=.seq c.toArray}}:=t.laid (λb o e=>am _ e) (ak _) (⟨m,c,i,TupN.new _ _⟩);exact⟨.ref f.objs.size,_,v,rfl,q _ (t.hok.fresh (ak _))⟩
 .obtain⟨c,i,pl,m⟩:=I.tuple g;exact call_tuple_same pl ⟨.ref p,H,I,rfl,q⟩
def tyV (K:Z5)(T:String)(x:V)(H:Hp):Prop:=match x with
 |.str _=>T="str"
 |.int _=>T="int"
 |.ref p=>(T="list"/\∃xs,SqL K H p xs)\/(T="tuple"/\∃o,K.lookup p=Z9 o/\o.cls=.type "tuple"/\o.dict=Z8)\/(T="dict"/\((∃kvs,H p=Z9 (.dK kvs))\/∃kvs,H p=Z9 (.dT kvs)))\/(T="set"/\∃S n,H p=Z9 (.set S n))
 |_=>False
theorem zj6 (I:Inv X f j H s)(r:RelV x v)(ty:tyV X.K T x H):
  s.TypeIs v T/\∀a,v=.ref a->∃ob,s.heap.get? a=Z9 ob/\ob.dict=none:=by
 cases x with
 |str z=>obtain⟨t,rfl⟩:=r;cases ty;exact⟨sx s z t,λ_ e=>nomatch e⟩
 |int i=>obtain⟨t,rfl⟩:=r;cases ty;exact⟨typeIs_int s i t,λ_ e=>nomatch e⟩
 |ref p=>
  cases r;rcases ty with⟨rfl,k,g⟩|⟨rfl,o,b,hc,hd⟩|⟨rfl,b⟩|⟨rfl,S,n,b⟩
  .obtain⟨h,_,pl,_⟩:=I.list g;refine⟨pl.isList.typeIs,λa e=>?_⟩;cases e;obtain⟨o,n,e,c,hd,_⟩:=pl;exact⟨o,e,hd⟩
  .refine⟨⟨o,I.cL p o b,hc⟩,λa e=>?_⟩;cases e;exact⟨o,I.cL _ o b,hd⟩
  .have z:∃o,s.heap.get? p=Z9 o/\o.ExactDict:=by
    rcases b with⟨kvs,b⟩|⟨kvs,b⟩
    .obtain⟨_,_,_,_,o,_,_,e,ex,_⟩:=I.hok p _ b;exact⟨o,e,ex⟩
    .obtain⟨_,_,_,_,o,_,_,e,ex,_⟩:=I.hok p _ b;exact⟨o,e,ex⟩
   obtain⟨o,e,ex⟩:=z;refine⟨⟨o,e,ex.1⟩,λa d=>?_⟩;cases d;exact⟨o,e,ex.2.1⟩
  .obtain⟨o,_,_,_,e,ex,_⟩:=I.hok p _ b;refine⟨⟨o,e,ex.1⟩,λa d=>?_⟩;cases d;exact⟨o,e,ex.2.1⟩
 |_=>exact False.elim ty
def mZ (K:Z5)(T:String)(r:V->List V->Hp->VK->Prop)(to:TE):TE:=λσ H Q=>to σ H λx H1=>tyV K T x H1/\r x [] H1 Q
def Ci (K:Z5)(T:String)(r:V->List V->Hp->VK->Prop)(to:TE)(t:TA):TE:=λσ H Q=>to σ H λx H1=>tyV K T x H1/\t σ H1 λxs H2=>r x xs H2 Q
variable {o e:Expr}{es:List Expr}{to:TE}{t:TA}{name:Str}{apos cpos:Pos}{T id:String}{r:V->List V->Hp->VK->Prop}
theorem zik (pa:sy T)(slot:Slot T name id)(d:tu (.builtin id)=pure (.type "method_descriptor"))(hm:MtR X id r)(i:PE X o to)
  (b:kz o name X.env (eval o X.env)=eval o X.env:=by rfl) (c:(apos.endLine==cpos.line)=true:=by rfl):PE X (.Call (.Attribute o name apos) [] [] cpos) (mZ X.K T r to):=by
 intro a s e H Q I h;refine wpAny_Call_method0_late b c (aM (i a s e H _ I h) ?_)
 rintro v j ⟨x,k,f,g,ty,l⟩
 obtain⟨m,n⟩:=zj6 f g ty;exact⟨T,id,pa,slot,d,m,n,ny rfl (PySem.evalArgs_none (hm a j e k x [] v [] Q f g .nil l))⟩
theorem zl6 (pa:sy T)(slot:Slot T name id)(g:tu (.builtin id)=pure (.type "method_descriptor"))(hm:MtR X id r)(m:PE X o to)(n:PA X (e::es) t)
  (c:kz o name X.env (eval o X.env)=eval o X.env:=by rfl)
  (f:((jn cpos (dj (e::es) X.env)).all (λx=> !x.1)&&(ou cpos (k8 [] X.env)).all (λx=>x.1.isSome)
   &&decide ((e::es).length+([]:List nr).length+(if([]:List nr).isEmpty then 0 else 1)<30))=true:=by rfl)
  (d:(apos.endLine==cpos.line)=true:=by rfl) (hs:dj (e::es) X.env=(Z6,eval e X.env)::dj es X.env:=by rfl) (b:(jn cpos (dj es X.env)).any (·.1)=false:=by rfl):
  PE X (.Call (.Attribute o name apos) (e::es) [] cpos) (Ci X.K T r to t):=by
 intro a s i H Q I h;refine wpAny_Call_method_late c f d rfl (aM (m a s i H _ I h) ?_)
 rintro v p ⟨x,q,j,k,ty,u⟩
 obtain⟨w,y⟩:=zj6 j k ty;refine⟨T,id,pa,slot,g,w,y,?_⟩;have l:=n cpos a p i q _ j u;rw[hs]at l ⊢;refine ny (by show(Z6||(jn cpos (dj es X.env)).any (·.1))=Z6;rw[b]<;>rfl) (lb ?_);exact aM l λz A ⟨B,C,D,E,F⟩=>hm a A i C x B v z Q D k E F
end
def HK (X:Cx)(id:String)(r:V->List V->Hp->VK->Prop):Prop:=∀(pins:List (Addr×Obj)) (s:bb) (σ:St) (H:Hp) (x:V) (xs:List V) (v:Value) (us:List Value) (Q:VK),Inv X pins σ H s->RelV x v->Vals xs us->r x xs H Q->wpAny (model X.prog X.w) X.A (call (.builtin id) (v::us)) (EP X pins σ Q) X.xe s
theorem Vals.one (h:Vals [x] a):∃u,a=[u]/\RelV x u:=by
 cases h with
 |cons r h=>cases h;exact⟨_,rfl,r⟩
theorem Vals.zero:∀{a:List Value},Vals [] a->a=[]
 |_,.nil=>rfl
theorem Inv.lset {a:List Value}(I:Inv X b c H s)(d:H l=Z9 (.lst j))
  (e:s.heap.get? l=Z9 {cls:=.type "list",data:=.seq a.toArray n}) (hf:f a.toArray=lF.toArray) (g:Vals ys lF) (h:ys.length<=ba):
  Inv X b c (upd H l (.lst ys)) {s with heap:=s.heap.update l (Obj.mapSeq f),toks:=t'}:=by
 have q:=PySem.IsL.update e f;rw[hf]at q;refine I.write (d▸trivial) (.inl rfl) (λk u i hu=>(fg s.heap (Obj.mapSeq f) (Ne.symm i)).trans hu) ⟨_,q⟩ ?_;exact⟨h,lF,_,g,q⟩
theorem Inv.lnew (I:Inv X a d H s)(e:Vals c b)(f:c.length<=ba):
  Inv X a d (upd H s.heap.objs.size (.lst c)) {s with heap:=s.heap.push {cls:=.type "list",data:=.seq b.toArray},toks:=t'}:=
 I.laid (λ_ _ q=>am _ q) (ak _) ⟨f,b,0,e,bx _ rfl⟩
theorem Inv.fresh (I:Inv X a b H s):H s.heap.objs.size=none:=I.hok.fresh (ak _)
theorem Inv.xG (I:Inv X c f H s)(d:H l=Z9 (.lst b)):b.length<=ba/\∃a n,Vals b a/\b.length=a.length/\s.heap.get? l=Z9 {cls:=.type "list",data:=.seq a.toArray n}:=by obtain⟨z,a,n,r,e⟩:=I.hok l _ d;exact⟨z,a,n,r,r.length,e⟩
def zT:V->List V->Hp->VK->Prop:=λx vs H Q=>∃l xs y,x=.ref l/\vs=[y]/\H l=Z9 (.lst xs)/\xs.length<ba/\Q .aO (upd H l (.lst (xs++[y])))
theorem Cj:HK X "list.append" zT:=by
 rintro b s h H x i v j Q I d f ⟨l,k,y,rfl,rfl,c,m,q⟩
 cases d;obtain⟨u,rfl,g⟩:=f.one;obtain⟨z,a,n,r,o,e⟩:=I.xG c;refine tf F.slot_list_append ⟨_,e,rfl⟩ F.entry_list_append (F.args_list_append_2 _ _) (PySem.list_append l a.toArray n u (by grind)) ⟨e,?_⟩;refine⟨.aO,_,I.lset c e (by simp) (r.append (.cons g .nil)) ?_,rfl,q⟩;rw[aw,dr];omega
def zU:V->List V->Hp->VK->Prop:=λx vs H Q=>∃l xs,x=.ref l/\vs=[]/\H l=Z9 (.lst xs)/\Q .aO (upd H l (.lst []))
theorem Oz:HK X "list.clear" zU:=by
 rintro c s h H x i v j Q I f g ⟨l,k,rfl,rfl,d,q⟩
 cases f;have a:=g.zero;subst a;obtain⟨z,b,n,r,m,e⟩:=I.xG d;refine tf F.slot_list_clear ⟨_,e,rfl⟩ F.entry_list_clear (F.args_list_clear_1 _) (AutoSeq1.list_clear_list_0 l b.toArray n (by grind)) ⟨e,?_⟩;exact⟨.aO,_,I.lset d e rfl .nil (c9 _),rfl,q⟩
end L2
namespace Att
open PySem PySem.W PySem.Calls PyProof.Rows
theorem OA:∀ns c,WellAll P h c (ns.map WData.int)->sg c ns:=by
 intro ns
 induction ns with
 |nil=>intro c w;cases w;exact .nil
 |cons n ns d=>
  intro c w;cases w with
  |cons a b=>cases a;exact .cons _ _ (d _ b)
theorem zcr {l:OpenLaw}(hn:l.most=Z9 n)
  (b:l.row.toRowW.claim.pre args=Z7) (i:WellAll P h c args):
  ∃a k ns,c=[ZS a]/\args=[WData.list (ns.map WData.int)]/\h.get? a=Z9 {cls:=.type "list",data:=.seq k.toArray}/\sg k ns/\ns.length<=n:=by
 have hc:l.pre.holds [] {args:=args}=true:=(pre_splitW b).2;obtain⟨d,r,rfl,m,o⟩:=hasAllW_cons ((pre_splitW b).1);obtain rfl:=hasAllW_nil o;obtain⟨v,rfl,p⟩:=hasW_list m;obtain⟨ns,rfl⟩:=items_int p
 have e:ns.length<=n:=by
  have g:(WTm.not (.lt (.lit (.int n)) (.len (.arg 0)))).holds [] {args:=[.list (ns.map .int)]}=true:=by have g:=(holds_andW hc).1;rw[hn]at g;exact g
  have j:=condW_of g (w_not (w_lt w_lit (w_len_list (w_arg rfl))));refine my λq=>?_
  first
   |(rw[ua q']at j;exact absurd j dc)
   |(simp at j;omega)
 cases i with
 |cons s t=>
  cases t;cases s with
  |list u f=>exact⟨_,_,ns,rfl,rfl,u,OA ns _ f,e⟩
theorem OB (l:OpenLaw)(args:List WData):l.row.toRowW.claim.post args (.bool Z7) args=true:=
 postW_of
  (show WShape.has [] (.bool Z7) .bool=Z7 by first|rfl|decide|simp[WShape.has,WShape.arms,WShape.armsAll])
  (show(WTm.eq .res (.lit (.bool Z7))).value [] {args:=args,res:=Z9 (.bool Z7),after:=args}=Z9 (.bool (Z7==Z7))from w_eq_bool (w_res rfl) w_lit) rfl
theorem attach_call {l:OpenLaw}
  (hn:l.most=Z9 n) (m:d.params.defaults=[])
  (call:∀w s₀ b mg p fa o s cd c a g ns,
   Ground q loose [] A w s₀ mg p b.heap->B w b.heap->
   b.heap.get? fa=Z9 o->o.data=.func (docDef d.name d.params d.body d.scope s cd c)->b.heap.CodeRec cd d.name->mg d.name=Z9 (.ref fa)->
   b.heap.get? a=Z9 {cls:=.type "list",data:=.seq g.toArray}->sg g ns->ns.length<=n->b.gens=#[]->
   jl (model l.prog w) qs (.call (.ref fa) ⟨[.ref a],[]⟩) (λr k=>r=.ok (.ret (.bool Z7))/\OldK b.heap k.heap/\k.os=b.os/\lu k.gens) b):
  WalkO q loose A B l.row.toRowW d [] (λf g=>PySem.call f g):=by
 intro w s₀ b mg p G Y fa o s cd c C kV D hd t x u E args y as h z F v H;obtain rfl:C=.none:=Dflts.none x m;obtain rfl:kV=.none:=Dflts.noKw x;obtain⟨a,g,ns,rfl,rfl,i,e,j⟩:=zcr hn h v;refine enter_call (i3 (call w s₀ b mg p fa o s cd c a g ns G Y D (fd_plain hd) t u i e j E) λr k I=>?_);obtain⟨rfl,J,K,L⟩:=I;exact⟨.inl ⟨.bool Z7,.bool Z7,[],rfl,λ_=>rfl,.bool Z7,OB l _,λ_=>⟨List.Pairwise.nil,λ_ hm=>(nomatch hm)⟩⟩,J,K,L⟩
end Att
namespace L2
open PySem PySem.Spec PyProof.Rows
theorem HL:∀{a:List Value} {ns:List Int},sg a ns->Vals (ns.map V.int) a
 |_,_,.nil=>.nil
 |_,_,.cons n t h=>.cons ⟨t,rfl⟩ (HL h)
def Only (H:Hp):Prop:=∀b,H b=Z8\/∃o xs,H b=Z9 (.fV o (.lst xs))
theorem zg4 {K:Z5}
  (M:K.In c.heap) (p:c.heap.Ns bt mg) (f:c.heap.Ns si N) (D:∀x:Str,x≠"__name__"->N x=dk x) (t:c.heap.NoLimit) (X:c.gens=#[])
  (C:c.heap.get? a=Z9 {cls:=.type "list",data:=.seq vs.toArray}) (O:sg vs ns) (Q:ns.length<=ba) (hr:Room k qs)
  (F:∀base,K.In base->base.Ns bt mg->FnOk P w K mg base CX k fa fd [x] sp) (l:∀s u,pe s fd ⟨[u],[]⟩ [(x,u)])
  (E:∀H,Only H->SqL K H a (ns.map V.int)->sp [.ref a] H (λv _=>v=.bl Z7) λ_ _ _=>False)
  (G:∀H e g,CX [] H c (λ_ _ _=>False) e g->False):
  jl (model P w) qs (.call (.ref fa) ⟨[.ref a],[]⟩) (λr g=>r=.ok (.ret (.bool Z7))/\OldK c.heap g.heap/\g.os=c.os/\lu g.gens) c:=by
 have R:=HL O
 have j:∀H,Only H->SqL K H a (ns.map V.int)->HOk P w H c.heap->(∀b,H b≠Z8->b=a)->(H a≠Z8->K.lookup a=Z8)->
   jl (model P w) qs (.call (.ref fa) ⟨[.ref a],[]⟩) (λr g=>r=.ok (.ret (.bool Z7))/\OldK c.heap g.heap/\g.os=c.os/\lu g.gens) c:=by
  intro H S hS hok T hK;have nB:∀{b:Addr} {o:Obj},c.heap.get? b=Z9 o->H b=Z8->(kZ c.heap H).get? b=Z9 o:=λe n=>Nj e n
  have I:∀{b:Addr} {o:Obj} {es:Array DictEntry} {ep:Nat},c.heap.get? b=Z9 o->o.data=.dict es ep->H b=none:=λ{b o es ep} e d=>by
   cases q:H b with
   |none=>rfl
   |some u=>have J:=T b (by rw[q];simp);subst J;rw[C]at e;cases e;cases d
  have i:∀{b:Addr} {m:Str->Option Value},c.heap.Ns b m->(kZ c.heap H).Ns b m:=λ{b m} ⟨o,es,ep,e,d,r⟩=>⟨o,es,ep,nB e (I e d),d,r⟩
  have y:=λb o e=>nB (M b o e) (by
   cases q:H b with
   |none=>rfl
   |some u=>have J:=T b (by rw[q];simp);subst J;rw[hK (by rw[q];simp)]at e;cases e)
  refine i3 ((F _ y (i p)).run qs [] c H ⟨[.ref a],[]⟩ [.ref a] [.ref a] _ _ hr ⟨rfl,⟨y,i p,⟨N,i f,D⟩,let⟨mc,h1,h2⟩:=t;⟨mc,i h1,h2⟩⟩,λb o e=>Nk e,Nat.le_of_eq (Ni _ _),trivial,λb f=>absurd (show b∈([]:List Addr)from f) (by simp),hok,.of_eq X⟩ (l c (.ref a)) (.cons rfl .nil) (E H S hS)) λr g h=>?_;cases r with
  |error e=>exact(G H e g h).elim
  |ok fl=>
   cases fl with
   |next=>exact False.elim h
   |brk=>exact False.elim h
   |cont=>exact False.elim h
   |ret u=>
    obtain⟨v,H',os,bare,un,A,r',rfl⟩:=h;obtain rfl:u=Value.bool true:=r';refine⟨rfl,OldK.of_keep λb o e=>?_,os,bare⟩;cases q:H b with
    |none=>exact un.keep b o e q (by intro z;exact absurd (show b∈([]:List Addr)from z) (by simp)) (by simp)
    |some u=>
     rcases S b with z|⟨ob,xs,z⟩
     .rw[q]at z;cases z
     .have z2:=un.cJ b ob _ z;obtain⟨U,_⟩:=hok b _ z;obtain⟨e2,_⟩:=A b _ z2;rw[e]at U;cases U;exact e2
 cases L:K.lookup a with
 |some o=>have e:=M a o L;rw[C]at e;cases e;refine j (λ_=>Z8) (λ_=>.inl rfl) (.inr ⟨_,vs.toArray,_,L,rfl,rfl,rfl,by rw[c8,O.length];exact Q,by simpa using R⟩) (λb u z=>by have B:Z8=Z9 u:=z;cases B) (λb z=>absurd rfl z) λz=>absurd rfl z
 |none=>
  refine j (λb=>if b=a then Z9 (.fV {cls:=.type "list",data:=.seq vs.toArray} (.lst (ns.map V.int)))else Z8) (λb=>?_) (.inl (.inr ⟨{cls:=.type "list",data:=.seq vs.toArray},tw rfl⟩)) (λb u z=>?_) (λb z=>?_) λ_=>L
  .by_cases f:b=a
   .exact .inr ⟨_,_,tw f⟩
   .exact .inl (tx f)
  .by_cases f:b=a
   .have B:=(tw f).symm.trans z;cases B;subst f;exact⟨C,by rw[ae];exact Q,vs,_,R,C⟩
   .have B:=(tx f).symm.trans z;cases B
  .by_cases f:b=a
   .exact f
   .exact absurd (tx f) z
theorem walk_of {l:W.OpenLaw}{K:eu->Z5}{B:World->CXT}{C:World->Sp}
  (hn:l.most=Z9 n) (p:n<=ba) (r:d.params.defaults=[]) (hr:Room k qs)
  (I:∀w h,J w h->(K w.params).In h)
  (F:∀w mg fa h,(K w.params).In h->h.Ns bt mg->mg d.name=Z9 (.ref fa)->∃fd,(∀s u,pe s fd ⟨[u],[]⟩ [(x,u)])/\∀base,(K w.params).In base->base.Ns bt mg->FnOk l.prog w (K w.params) mg base (B w) k fa fd [x] (C w))
  (t:∀w H a (ns:List Int),ns.length<=n->Only H->SqL (K w.params) H a (ns.map V.int)->C w [.ref a] H (λv _=>v=.bl Z7) λ_ _ _=>False)
  (y:∀w H s e z,B w [] H s (λ_ _ _=>False) e z->False):
  W.WalkO q loose S J l.row.toRowW d [] (λf D=>PySem.call f D):=by
 refine Att.attach_call hn r λw s₀ j mg U fa o X cd L a D ns G Y Z hd M A m i c N=>?_;have E:=I w _ Y;obtain⟨fd,O,P⟩:=F w mg fa _ E G.T.g A;exact zg4 E G.T.g G.T.b G.T.builtins G.T.nolimit N m i (bj c p) hr P O (λH Q R=>t w H a ns c Q R) λH e z=>y w H j e z
def z0m (s:Stmt):Arguments:=match s with
 |.FunctionDef _ a _ _ _ _ _ _ _ _=>a
 |_=>{posonlyargs:=[],args:=[],vararg:=Z8,kwonlyargs:=[],kw_defaults:=[],kwarg:=Z8,defaults:=[]}
def z0e (s:Stmt):List Stmt:=match s with
 |.FunctionDef _ _ b _ _ _ _ _ _ _=>b
 |_=>[]
def z0a (s:Stmt):Scope:=match s with
 |.FunctionDef _ _ _ _ _ _ sc _ _ _=>sc
 |_=>{kind:=.function,names:=[],isGenerator:=Z6,isCoroutine:=Z6}
abbrev nD:CXT:=λ_ _ _ _ _ _=>False
abbrev E0:XK:=λ_ _ _=>False
theorem OC:z2c nD X E0:=λ_ _ _ _ _ _ _ h=>h.elim
structure Fun (K:Z5)(x qual:Str)(st:Stmt)(f:Addr)(fd:d5):Prop where
 ex:∃(oc:Value) (od:Option Addr) (kV doc pm:Value) (an:Option Addr) (cdv ct:Value) (osl:Array (Option Value)),fd=Z0 x qual (z0m st) (z0e st) (z0a st) .none kV doc pm an cdv ct/\K.lookup f=Z9 ⟨oc,od,.func fd,osl⟩/\ZZ K cdv qual=Z7
 kp:Z2 K (.ref f)=Z7
section
variable {P:cu}{w:World}{K:Z5}{mg:Str->Option Value}{base:Heap}
theorem Fun.ok {st:Stmt}(F:Fun K x b st f fd)(S:FnScope N ps (z0a st))(len:∀vs H Q E,g vs H Q E->vs.length=ps.length)
  (c:∀a A outer s H vs Q E,Room k (A.deeper (ox b (z0a st) s.heap.objs.size f a))->g vs H Q E->∃t,PSs (iF nD P w K mg base N b (z0a st) f a A outer s H E).xg (z0e st) t/\t {nx:=λ_ i=>Q .aO i,rt:=Q} (start N vs) H):FnOk P w K mg base nD (k+1) f fd ps g:=by
 obtain⟨oc,od,kV,j,n,an,a,ct,l,rfl,m,d⟩:=F.ex;refine zkz m d S len λA outer s H vs Q E hr e=>?_;obtain⟨t,h,q⟩:=c a A outer s H vs Q E hr e;exact⟨t,h.xg,q⟩
theorem Fun.binds {st:Stmt}(F:Fun K x c st f fd)
  (h:∀kV a d an b ct e,e.length=ps.length->jg (Z0 x c (z0m st) (z0e st) (z0a st) .none kV a d an b ct) ⟨e,[]⟩=pure (ps.zip e)):Binds K fd ps []:=by
 obtain⟨oc,od,kV,a,d,an,b,ct,g,rfl,j,i⟩:=F.ex;exact .all (h kV a d an b ct)
theorem Ck {st:Stmt}{kV:Value}(l:K.lookup f=Z9 ⟨oc,od,.func (Z0 x a (z0m st) (z0e st) (z0a st) .none kV d g an b ct),e⟩) (c:ZZ K b a=Z7) (k:Z2 K (.ref f)=Z7):Fun K x a st f (Z0 x a (z0m st) (z0e st) (z0a st) .none kV d g an b ct):=⟨⟨oc,od,kV,d,g,an,b,ct,e,rfl,l,c⟩,k⟩
end
theorem jG {B:Prop}(h:B):if Z6=Z7 then A else B:=h
theorem jH {B:Prop}(h:A):if Z7=Z7 then A else B:=h
def Same (H H':Hp):Prop:=∀b o,H b=Z9 o->H' b=Z9 o
theorem Same.refl (H:Hp):Same H H:=λ_ _ h=>h
theorem Same.trans (a:Same H d)(b:Same d e):Same H e:=λc o h=>b c o (a c o h)
theorem OD:CallR X (.builtin "len") (λb H Q=>∃a kvs,b=[V.ref a]/\H a=Z9 (.dK kvs)/\Q (.int kvs.length) H):=by
 rintro c s f H b g Q I r ⟨a,kvs,rfl,d,q⟩
 obtain⟨u,rfl,rfl⟩:=vals1 r;exact N8 I (.inl d) λt h e=>⟨.int kvs.length,H,e,⟨t,rfl⟩,q⟩
end L2
set_option maxHeartbeats 5000000
namespace L2
open PySem PySem.Spec PyProof.Rows
def fG (env:Env):List (Str×gx)->List (Str×Addr)->List (Str×Addr)
 | [],cs=>cs
 |(n,k)::r,cs=>fG env r (if(k==.free)=Z7 then(n,(env.cells.lookup n).getD 0)::cs else cs)
theorem HM:∀l (cs:List (Str×Addr)),(∃c,cs.lookup x=Z9 c)->∃c,(fG env l cs).lookup x=Z9 c
 | [],cs,h=>h
 |(n,k)::r,cs,h=>by
  refine HM r _ ?_;split
  .by_cases e:(x==n)=Z7
   .exact⟨_,by rw[c7,e]⟩
   .obtain⟨c,hc⟩:=h;exact⟨c,by rw[c7,qt.mpr e];exact hc⟩
  .exact h
theorem Cm:∀(l:List (Str×gx)) cs,l.lookup x=Z9 .free->∃c,(fG env l cs).lookup x=Z9 c
 | [],cs,h=>by simp at h
 |(n,k)::r,cs,h=>by
  rw[c7]at h;cases e:(x==n)with
  |true=>rw[e]at h;have a:=tz h;subst a;exact HM r _ ⟨_,by rw[tw (by rfl),c7,e]⟩
  |false=>rw[e]at h;exact Cm r _ h
theorem zee:∀l cs,(∀y∈l,y.2=.free->∃c,env.cells.lookup y.1=Z9 c)->(∀x c,cs.lookup x=Z9 c->env.cells.lookup x=Z9 c)->
  ∀x c,(fG env l cs).lookup x=Z9 c->env.cells.lookup x=Z9 c
 | [],cs,_,h=>h
 |(n,k)::r,cs,i,h=>by
  refine zee r _ (λy j=>i y (bc _ j)) λx c a=>?_;by_cases f:(k==NameKind.free)=Z7
  .rw[tw f,c7]at a;cases e:(x==n)with
   |true=>
    rw[e]at a;have g:x=n:=by simpa using e
    obtain⟨d,hd⟩:=i (n,k) bg (by simpa using f);have b:=hd;rw[b]at a;rw[g,b];exact a
   |false=>rw[e]at a;exact h x c a
  .rw[tx f]at a;exact h x c a
theorem HP (h:∀y∈scope.names,y.2=.free->∃c,env.cells.lookup y.1=Z9 c):closureFor scope env=pure (fG env scope.names []):=by
 have go:∀l cs,(∀y∈l,y.2=.free->∃c,env.cells.lookup y.1=Z9 c)->
   (forIn l cs λx r=>if(x.2==NameKind.free)=Z7 then(do let a <-cellOf env x.1;pure (ForInStep.yield ((x.1,a)::r)):Sem _)else pure (ForInStep.yield r))=(pure (fG env l cs):Sem _):=by
  intro l
  induction l with
  |nil=>intro cs _;rfl
  |cons y r i=>
   intro cs f;obtain⟨n,k⟩:=y;rw[List.forIn_cons];unfold fG;by_cases b:(k==NameKind.free)=Z7
   .obtain⟨c,hc⟩:=f (n,k) bg (by simpa using b);have d:=hc;have e:cellOf env n=pure c:=by unfold cellOf;rw[d]
    rw[tw b,tw b];rw[e,d];exact i ((n,c)::cs) λy g=>f y (bc _ g)
   .rw[tx b,tx b];exact i cs λy g=>f y (bc _ g)
 have:=go scope.names [] h
 first
  |exact this
  |(show(forIn scope.names [] _>>=λr=>pure r)=_;rw[show(forIn scope.names ([]:List (Str×Addr)) _:Sem _)=_ from this];rfl)
theorem zbc (hc:∀y∈scope.names,y.2≠.cell):
  (relabel scope env).names.lookup x=Z9 .cell\/(relabel scope env).names.lookup x=Z9 .free->scope.names.lookup x=Z9 .free:=by
 have go:∀(l:List (Str×gx)),(∀y∈l,y.2≠ .cell)->∀k,(k=NameKind.cell\/k=NameKind.free)->
   (l.map λ(n,k)=>if(k==.free&&env.scope.kind==.function&&env.kindOf n==Z9 .cell)then(n,NameKind.cell)else(n,k)).lookup x=Z9 k->l.lookup x=Z9 .free:=by
  intro l
  induction l with
  |nil=>intro _ k _ h;simp at h
  |cons y r g=>
   intro d k a h;obtain⟨n,q⟩:=y;rw[br]at h;rw[c7];by_cases c:(q==NameKind.free&&env.scope.kind==.function&&env.kindOf n==Z9 .cell)=Z7
   .have b:q=.free:=by
     simp at c;simpa using c.1.1
    dsimp only at h
    rw[tw c,c7]at h;cases e:(x==n)with
    |true=>rw[b]
    |false=>rw[e]at h;exact g (λy f=>d y (bc _ f)) k a h
   .dsimp only at h
    rw[tx c,c7]at h;cases e:(x==n)with
    |true=>
     rw[e]at h;have b:=tz h;rcases a with a|a
     .exact absurd (b.trans a) (d (n,q) bg)
     .show Z9 q=Z9 .free;rw[b,a]
    |false=>rw[e]at h;exact g (λy f=>d y (bc _ f)) k a h
 rintro(h|h)
 .exact go scope.names hc .cell (.inl rfl) h
 .exact go scope.names hc .free (.inr rfl) h
def blk (X:Cx)(scope:Scope)(N':List Str)(C:Addr)(fp:List Addr)(s:bb)(H:Hp):Cx:={X with N:=N',s₀:=s,iB:=H,env:=compEnvC scope (fG X.env scope.names []) C X.env,outer:=X.stack,stack:=X.stack,ex:=fp,fn:=λ_=>Z6,xe:=λ_ _=>False,fx:=Z8}
structure BlkScope (X:Cx)(scope:Scope)(N':List Str)(nt:Nat)(js:List Nat):Prop where
 kind:scope.kind=.function
 nG:∀y∈scope.names,y.2≠.cell
 names:∀y∈scope.names,y.2=.local->scope.names.lookup y.1=Z9 .local
 frees:∀y∈scope.names,y.2=.free->X.env.scope.names.lookup y.1=Z9 .cell\/X.env.scope.names.lookup y.1=Z9 .free
 nd:N'.Nodup
 len:N'.length=nt+js.length
 pl:∀(i j:Nat),js[i]?=Z9 j->N'[nt+i]?=X.N[j]?/\∃x,X.N[j]?=Z9 x/\scope.names.lookup x=Z9 .free
def pP (NX:List Str)(HQ scope:Scope)(N':List Str)(nt:Nat)(js:List Nat):Bool:=
 (scope.kind==.function)&&scope.names.all (λy=>!(y.2==.cell))&&scope.names.all (λy=>!(y.2==.local)||(scope.names.lookup y.1==Z9 .local))&&
 scope.names.all (λy=>!(y.2==.free)||(HQ.names.lookup y.1==Z9 .cell)||(HQ.names.lookup y.1==Z9 .free))&&decide N'.Nodup&&(N'.length==nt+js.length)&&
 (N'.drop nt==js.map λj=>NX.getD j "")&&js.all (λj=>decide (j<NX.length)&&(scope.names.lookup (NX.getD j "")==Z9 .free))
theorem HR (hN:X.N=f)(hs:X.env.scope=c)(h:pP f c scope k l m=Z7):BlkScope X scope k l m:=by
 unfold pP at h;simp only[cg,cc,decide_eq_true_eq,beq_iff_eq,Bool.or_eq_true,Bool.not_eq_true',beq_eq_false_iff_ne]at h;obtain⟨⟨⟨⟨⟨⟨⟨n,o⟩,p⟩,q⟩,r⟩,s⟩,t⟩,u⟩:=h;refine⟨n,o,λy d e=>(p y d).resolve_left (λz=>z e),λy d e=>?_,r,s,λi j g=>?_⟩
 .rw[hs];rcases q y d with(z|z)|z
  .exact absurd e z
  .exact .inl z
  .exact .inr z
 .obtain⟨a,b⟩:=u j (aq g);have e:X.N[j]?=Z9 (f.getD j ""):=by rw[hN,aa,ac a];rfl
  refine⟨?_,_,e,b⟩;rw[e,<-List.getElem?_drop,t,ao,g];rfl
def fH (nt:Nat)(js:List Nat)(σ:St):St:=ay nt Z8++js.map λj=>σ.getD j Z8
theorem zkp (B:BlkScope X scope Q G R)(I:Inv X D J H s)
  (w:∀b∈fp,FpOk X D H b) (S:∀b∈fp,∃o,s.heap.get? b=Z9 o)
  (k:∀b o,s.heap.get? b=Z9 o->O.get? b=Z9 o) (hn:O.Ns s.heap.objs.size m1):
  Inv (blk X scope Q s.heap.objs.size fp s H) D (fH G R J) H {s with heap:=O,toks:=t1}:=by
 have g:∀x c,(fG X.env scope.names []).lookup x=Z9 c->X.env.cells.lookup x=Z9 c:=zee _ _ (λy P hf=>I.ok.has y.1 (B.frees y P hf)) (λx c h=>by simp at h);have lt:∀b o,s.heap.get? b=Z9 o->b≠s.heap.objs.size:=λb o e=>cv (bn e);refine⟨⟨I.ok.mod,B.kind,I.ok.glob,I.ok.blt,ak _,λx y c O h2=>I.ok.inj x y c (g x c O) (g y c h2),λx T=>Cm _ _ (zbc B.nG T),λx c h=>(by cases h),I.ok.hd,I.ok.frames,.inl rfl,λb E=>?_,I.bs,bj I.ok.kE I.sz,λb o e E=>?_,λb E T=>?_,I.stack,I.gW,λ_ _ z=>by cases z⟩,rfl,I.bare,Un.kept k,⟨m1,hn,λi x v e1 A e3=>?_⟩,λx c e=>?_,I.hok.fresh (ak _),λx c e=>I.bC x c (g x c e),λp hp=>?_,I.hok.kept k,?_,λ_ _ z=>by cases z⟩
 .obtain⟨o,K⟩:=S b E;exact⟨lt b o K,λx c h=>(w b E).2.2.2.2.1 x c (g x c h)⟩
 .rcases(w b E).2.2.2.1 with z|z
  .exact I.ok.iC b o e z
  .exact absurd (ci (bn e) (bj I.ok.kE z)) (dm _)
 .rcases bq.mp (I.gU b T)with z|z
  .exact(w b E).2.1 z
  .exact(w b E).2.2.1 z
 .--a name with a value:one of W0 zV
  have hi:G<=i:=by refine my λh=>?_;unfold fH at A;rw[cy (b6▸h),cz,tw h]at A;cases A
  unfold fH at A;rw[b8 (b6▸hi),b6,ao]at A;cases U:R[i-G]? with
  |none=>rw[U]at A;cases A
  |some j=>
   rw[U]at A;have C:J.getD j Z8=Z9 v:=tz A;obtain⟨L,y,P,f⟩:=B.pl (i-G) j U;rw[pi hi]at L;have V:x=y:=by have M:Q[i]?=Z9 x:=e1;rw[L,P]at M;exact(tz M).symm
   subst V
   have W:J[j]?=Z9 (Z9 v):=by
    rw[aa]at C;cases q:J[j]? with
    |none=>rw[q]at C;cases C
    |some z=>rw[q]at C;simp_all
   have N:=B.frees (x,.free) (PySem.mem_of_lookup f) rfl;obtain⟨m,W2,hl⟩:=I.loc;obtain⟨u,r,l⟩:=hl j x v P W (N.elim (λz=>.inr (.inl z)) (λz=>.inr (.inr z)));refine⟨u,r,?_⟩;rcases l with⟨Y,_⟩|⟨Y,c,hc,F⟩
   .rcases N with z|z
    .have t:X.env.scope.names.lookup x=Z9 .local:=Y;rw[z]at t;cases t
    .have t:X.env.scope.names.lookup x=Z9 .local:=Y;rw[z]at t;cases t
   .obtain⟨d,hd⟩:=Cm scope.names [] f;have Z:d=c:=by have:=g x d hd;rw[hc]at this;cases this;rfl
    subst Z;refine .inr ⟨?_,d,hd,?_⟩
    .rcases e3 with z|z|z
     .exfalso
      have:∀(l:List (Str×gx)),l.lookup x=Z9 .free->(l.map λ(n,k)=>if(k==.free&&X.env.scope.kind==.function&&X.env.kindOf n==Z9 .cell)then(n,NameKind.cell)else(n,k)).lookup x≠Z9 .local:=by
       intro l
       induction l with
       |nil=>intro h;simp at h
       |cons y r ih=>
        intro h;obtain⟨n,q⟩:=y;rw[c7]at h;rw[br]
        dsimp only
        cases e:(x==n)with
        |true=>
         rw[e]at h;have hq:=tz h;subst hq;split
         .rw[c7,e];intro z;cases z
         .rw[c7,e];intro z;cases z
        |false=>
         rw[e]at h;split
         .rw[c7,e];exact ih h
         .rw[c7,e];exact ih h
      exact this _ f z
     .exact .inl z
     .exact .inr z
    .obtain⟨o,K,xH⟩:=F;exact⟨o,k _ _ K,xH⟩
 .obtain⟨v,o,K,hd⟩:=I.cell x c (g x c e);exact⟨v,o,k _ _ K,hd⟩
 .obtain⟨q1,q2,q3,q4,q5⟩:=I.pin p hp;refine⟨k _ _ q1,q2,lt _ _ q1,λz=>?_,q5⟩;rcases bq.mp (I.gU p.1 z)with z|z
  .exact q3 z
  .exact q4 z
 .show(fH G R J).length=Q.length;unfold fH;rw[aw,b6,ae,B.len]
section
variable (M:Model)(A:gn)(env:Env)
abbrev gG:Value->bb->Prop:=λ_ _=>False
def OE (acc:Value)(Z:bb->Prop)(x:Value):bb->Prop:=wpAny M A (call (.builtin "list.append") [acc,x]) (λ_=>Z) gG
def Cn (elt:Expr)(acc:Value)(Z:bb->Prop)(ok:Bool)(s:bb):Prop:=if ok=Z7 then wpAny M A (eval elt env) (OE M A acc Z) gG s else Z s
def OF (ifs:List Expr)(elt:Expr)(acc:Value)(Z:bb->Prop):bb->Prop:=wpAny M A (forIn ifs Z7 λc r=>if r=Z7 then(rh c env (eval c env)>>=λok=>pure (ForInStep.yield ok))else pure (ForInStep.yield r)) (Cn M A env elt acc Z) gG
def Co (tg:Expr)(ifs:List Expr)(elt:Expr)(acc:Value)(Z:bb->Prop)(v:Value):bb->Prop:=wpAny M A (qe tg env v) (λ_=>OF M A env ifs elt acc Z) gG
def Cp (tg:Expr)(ifs:List Expr)(elt:Expr)(it acc:Value)(End Z:bb->Prop)(r:Option Value)(s:bb):Prop:=match r with
 |some v=>wpAny M A (lq tg it v) (λ_=>Co M A env tg ifs elt acc Z v) gG s
 |none=>End s
end
theorem zjy (I:Nat->bb->Prop)
  (one:∀k t,I k t->wpAny (model P w) A (pyNext it) (Cp (model P w) A env g a b it c (R (.ok .next)) λi=>∃m,m<k/\I m i) gG t) n (h:I n s):
  jl (model P w) A (.compLoop (.ListComp b [⟨g,d,a,0⟩] scope pos) 0 it c env) R s:=by
 apply codeAny_loop rfl I _ n h;intro k t j;apply wpAny_noted;apply wpAny_noRaise;apply ah;apply il;apply ah;refine aM (one k t j) ?_
 rintro(_|v) r e
 .exact bv e
 apply ah;refine aM e λ_ u l=>?_;apply ah;refine aM l λ_ y o=>?_;apply ah;refine aM o ?_
 rintro(_|_) z f
 .exact bv ⟨rfl,f⟩
 apply ah;apply ah;refine aM f λx B p=>?_;apply ah;exact aM p λ_ C q=>bv (bv ⟨rfl,q⟩)
theorem Un.but (u:Un fs ex H f h g)(i:h.get? C=Z8)(c:gq C g j):Un fs ex H f h j:=by
 have ne:∀b o,h.get? b=Z9 o->b≠C:=λb o e z=>by rw[z,i]at e;cases e
 exact⟨λb o e n d a=>c.extBut b o (ne b o e) (u.keep b o e n d a),λb o e n d a=>let⟨sl,q⟩:=u.slot b o e n d a;⟨sl,c.extBut b _ (ne b o e) q⟩,u.free,λb o e a=>let⟨o',q⟩:=u.there b o e a;⟨o',c.extBut b _ (ne b o e) q⟩,u.cW,u.cJ,u.cX⟩
theorem HOk.but (ok:HOk P w H h)(d:H C=Z8)(f:gq C h g):HOk P w H g:=λa o e=>by
 refine(ok a o e).stay (λb u c q=>f.extBut b u (λz=>?_) q) (λ_ q=>q) λ_ _ q=>q;rcases c with c|c
 .rw[z]at c;rw[<-c,d]at e;cases e
 .rw[z,d]at c;cases c
def pQ (X:Cx)(ifs:List Expr)(t:TT):Prop:=∀(pins:List (Addr×Obj)) (s:bb) (σ:St) (H:Hp) (Q:Bool->Hp->Prop),Inv X pins σ H s->t σ H Q->wpAny (model X.prog X.w) X.A (forIn ifs Z7 λc r=>if r=Z7 then do let ok <-rh c X.env (eval c X.env);pure (ForInStep.yield ok)else pure (ForInStep.yield r)) (TP X pins σ Q) X.xe s
def xI:TT:=λ_ H Q=>Q Z7 H
theorem HS:pQ X [] xI:=λ_ _ _ H _ I h=>wpAny_tests_nil ⟨H,I,h⟩
theorem HU (h:PT X c t):pQ X [c] t:=λa s b H Q I q=>wpAny_tests_one (h a s b H Q I q)
def fX (a b:St):Prop:=a.length=b.length/\∀(i:Nat) v,a[i]?=Z9 (Z9 v)->b[i]?=Z9 (Z9 v)
def xJ (wi:TI)(g:TG)(tc:TT)(te:TE)(em:St->St):TE:=λσ H Q=>wi σ H λJ H1=>∀l,H1 l=Z8->∃P:Nat->Nat->List V->Hp->Prop,(∃m,P 0 m [] (upd H1 l (.lst [])))/\∀i m acc H2,P i m acc H2->(J.stop i H2/\Q (.ref l) H2)\/(J.go i H2/\acc.length<ba/\∃N:List V->Hp->Prop,(∀iG H',N iG H'->∃m',m'<m/\P (i+1) m' iG H')/\∀x H3,J.gY i H2 x H3->g x (em σ) H3 λiH H4=>fX (em σ) iH/\tc iH H4 λb H5=>if b=Z7 then te iH H5 λy H6=>H6 l=Z9 (.lst acc)/\N (acc++[y]) (upd H6 l (.lst (acc++[y])))else N acc H5)
theorem z5m {Q:VK}{RR:Value->Addr->Result->bb->Prop}(hc:X.calm=Z7)(B:BlkScope X scope S nt js)
  (hg:∀C D s H,PG (blk X scope S C D s H) tg g) (ht:∀C D s H,pQ (blk X scope S C D s H) ifs tc) (he:∀C D s H,PE (blk X scope S C D s H) elt te)
  (h2:xm X a σ tg (λJ H1=>∀l,H1 l=Z8->∃P:Nat->Nat->List V->Hp->Prop,(∃m,P 0 m [] (upd H1 l (.lst [])))/\∀i m f K,P i m f K->(J.stop i K/\Q (.ref l) K)\/(J.go i K/\f.length<ba/\∃N:List V->Hp->Prop,(∀F t,N F t->∃m',m'<m/\P (i+1) m' F t)/\∀x H3,J.gY i K x H3->g x (fH nt js σ) H3 λiH H4=>fX (fH nt js σ) iH/\tc iH H4 λb H5=>
  if b=Z7 then te iH H5 λy H6=>H6 l=Z9 (.lst f)/\N (f++[y]) (upd H6 l (.lst (f++[y])))else N f H5)) xn j)
  (OG:∀l C t U,(∃m,U.heap.Ns C m)->t C=Z8->C≠X.env.locals->C∉X.fs->(∀x c,X.env.cells.lookup x=Z9 c->c≠C)->X.s₀.heap.objs.size<=C->(∀p∈X.pn++a,p.1≠C)->(∀h',gq C U.heap h'->Inv X a σ t {U with heap:=h'})->Q (.ref l) t->RR (.ref l) C (.ok .next) U):
  wpAny (model X.prog X.w) X.A (newList []) (λf I=>wpAny (model X.prog X.w) X.A (newFunctionEnv scope X.env.globals (fG X.env scope.names []) [] X.env.qual Z8 .none (Z9 X.env)) (λxK Cq=>jl (model X.prog X.w) X.A (.compStart (.ListComp elt [⟨tg,iter,ifs,0⟩] scope pos) 0 xn f {xK with scope:=relabel scope X.env}) (RR f xK.locals) Cq) E I) E j:=by
 obtain⟨it,D,tn,J,K,rfl,I2,T,Cr,f2,q⟩:=h2;refine qu (wpAny_newFunctionEnv B.nG (by intro y hy;simp at hy) (λh₁ L M=>?_) B.kind);have xM:∀b∈D,∃o,j.heap.get? b=Z9 o:=λb h=>let⟨o,e,_⟩:=T.obj 0 _ Cr b h;⟨o,e⟩;have hl:=I2.hok.fresh (ak _);have W:=I2.lnew (t':=j.toks) .nil (c9 _);obtain⟨P,⟨m0,p0⟩,turn⟩:=q _ hl;generalize OH:j.heap.push {cls:=.type "list",dict:=Z8,data:=.seq ([]:List Value).toArray}=G at L M W ⊢;generalize OI:j.heap.objs.size=l at hl W p0 turn ⊢;have O:∀b o,j.heap.get? b=Z9 o->G.get? b=Z9 o:=λb o e=>OH▸am _ e;have k:=λb o e=>M.extBut b o (cv (bn e)) (am _ e);have f3:∀b∈D,FpOk X a (upd K l (.lst [])) b:=λb h=>by obtain⟨o,e⟩:=xM b h;exact⟨by rw[aG (OI▸cv (bn e))];exact(f2 b h).1,(f2 b h).2⟩
 have J0:=zkp (t1:=j.toks+([]:List (Str×Value)).length) B W f3 (λb h=>let⟨o,e⟩:=xM b h;⟨o,O b o e⟩) k L;have Cs:∀{t:Hp},(∀b∈D,t b=Z8)->∀b∈D,FpOk (blk X scope S G.objs.size D {j with heap:=G,toks:=j.toks} (upd K l (.lst []))) a t b:=λhn b h=>⟨hn b h,(J0.ok.kA b h).1,J0.ok.iD b h,.inl h,(J0.ok.kA b h).2,(f2 b h).2.2.2.2.2⟩;have out:∀{t:Hp} {U:bb},Inv (blk X scope S G.objs.size D {j with heap:=G,toks:=j.toks} (upd K l (.lst []))) a (fH nt js σ) t U->∀h',gq G.objs.size U.heap h'->Inv X a σ t {U with heap:=h'}:=λ{t U} Jn h' sb=>by exact W.call' Jn.os (Un.but Jn.base (ig (ak _)) sb) (Jn.hok.but Jn.free sb) Jn.bare λb h=>⟨(f3 b h).2.2.2.1,(f3 b h).2.1,(f3 b h).2.2.2.2.1,(f3 b h).2.2.2.2.2⟩
 have nC:∀x c,X.env.cells.lookup x=Z9 c->c≠G.objs.size:=λx c e z=>by obtain⟨v,q⟩:=W.cell x c e;exact absurd q.lt (z▸dm _)
 have loop:∀I,I={j with heap:=h₁,toks:=j.toks+([]:List (Str×Value)).length}->
   jl (model X.prog X.w) X.A (.compLoop (.ListComp elt [⟨tg,iter,ifs,0⟩] scope pos) 0 (.ref it) (.ref l) (compEnvC scope (fG X.env scope.names []) G.objs.size X.env)) (RR (.ref l) G.objs.size) I:=by
  rintro I rfl
  refine zjy (λn s'=>∃i f t,Inv (blk X scope S G.objs.size D {j with heap:=G,toks:=j.toks} (upd K l (.lst []))) a (fH nt js σ) t s'/\tn i s'.heap/\(∀b∈D,t b=Z8)/\P i n f t) ?_ m0 ⟨0,[],_,J0,T.keep _ _ _ Cr λb _ o e=>k b o (O b o e),λb h=>(f3 b h).1,p0⟩
  rintro n s3 ⟨i,f,H3,Jn,HV,HW,w3⟩
  rcases turn i n f H3 w3 with⟨stop,qn⟩|⟨go,OJ,N,hN,step⟩
  .refine aM (T.done (blk X scope S G.objs.size D {j with heap:=G,toks:=j.toks} (upd K l (.lst []))) rfl rfl rfl hc i a s3 _ H3 (λ_ _=>False) Jn (Cs HW) HV stop) λr s4 ⟨hr,I4⟩=>?_;subst hr;obtain⟨m,hn,_⟩:=id I4.loc;exact OG l G.objs.size H3 s4 ⟨m,hn⟩ I4.free (Nat.ne_of_gt (W.lt)) (W.wW (ak _)) nC W.sz (λp hp=>cv (bn (W.pin p hp).1)) (out I4) qn
  .refine aM (T.item (blk X scope S G.objs.size D {j with heap:=G,toks:=j.toks} (upd K l (.lst []))) rfl rfl rfl hc i a s3 _ H3 (λ_ _=>False) Jn (Cs HW) HV go) λr s4 ⟨u,hr,h4⟩=>?_;subst hr;refine aM h4 λ_ s5 ⟨x,H5,I5,r5,y5,Cu,Cv⟩=>aM (hg _ _ _ _ _ s5 _ H5 x u _ (I5.pinned (Cs Cv) (T.obj _ _ Cu)) r5 (step x H5 y5)) λ_ s6 ⟨σ6,H6,I6,kp,q6⟩=>aM (ht _ _ _ _ _ s6 σ6 H6 _ I6 q6) λb s7 ⟨H7,I7,q7⟩=>?_
   have R:∀{s7:bb} {H7:Hp} {F:List V},Inv (blk X scope S G.objs.size D {j with heap:=G,toks:=j.toks} (upd K l (.lst []))) (a++z75 D s5.heap) σ6 H7 s7->N F H7->
     ∃m,m<n/\∃i f t,Inv (blk X scope S G.objs.size D {j with heap:=G,toks:=j.toks} (upd K l (.lst []))) a (fH nt js σ) t s7/\tn i s7.heap/\(∀b∈D,t b=Z8)/\P i m f t:=λ{s7 H7 F} I7 w7=>by
    obtain⟨n',hm,w7⟩:=hN _ _ w7;refine⟨n',hm,i+1,F,H7,(I7.bX).weak kp.1 kp.2,T.keep _ _ _ Cu λb h o e=>(I7.pin (b,o) (bf _ (bf _ (vO h e)))).1,λb h=>?_,w7⟩;obtain⟨o,e,d⟩:=T.obj _ _ Cu b h;exact(I7.pin (b,o) (bf _ (bf _ (vO h e)))).2.1
   cases b with
   |false=>exact R I7 q7
   |true=>exact aM (he _ _ _ _ _ s7 σ6 H7 _ I7 q7) λy' s8 ⟨y,H8,I8,r8,OK,w8⟩=>aM (Cj _ s8 σ6 H8 (.ref l) [y] (.ref l) [y'] (λ_ H9=>N (f++[y]) H9) I8 rfl (.cons r8 .nil) ⟨l,f,y,rfl,rfl,OK,OJ,w8⟩) λ_ s9 ⟨v9,H9,I9,r9,w9⟩=>R I9 w9
 exact codeAny_compStart_list (loop _ rfl) (T.self _ 0 _ _ _ (T.keep _ _ _ Cr λb _ o e=>k b o (O b o e)) (loop _ rfl))
theorem z9w (hc:X.calm=Z7)(B:BlkScope X scope d k n)(o:PI X j a wi)
  (p:∀C b s H,PG (blk X scope d C b s H) j g) (r:∀C b s H,pQ (blk X scope d C b s H) e tc) (t:∀C b s H,PE (blk X scope d C b s H) f te)
  (hs:∀x,gf a X.env x=pure x:=by intro _;rfl):PE X (.ListComp f [⟨j,a,e,0⟩] scope pos) (xJ wi g tc te (fH k n)):=by
 intro c s u H Q I h;refine mn rfl hs (HP λy w hf=>I.ok.has y.1 (B.frees y w hf)) B.kind B.names (aM (o c s u H _ I h) λv z A=>aM A λD K E=>?_);refine z5m hc B p r t E ?_;intro l C F z ns _ _ _ _ _ _ i q;obtain⟨m,hn⟩:=ns;exact⟨m,hn,λG J=>⟨.ref l,F,i G J,rfl,q⟩⟩
def OL (i:Nat)(t:TE):TS:=λD σ H=>t σ H λv H1=>D.nx (σ.set i (Z9 v)) H1
theorem zap (hc:X.calm=Z7)(hN:X.N.Nodup)(hy:X.N[i]?=Z9 y)(R:X.env.scope.names.lookup y=Z9 .local)(B:BlkScope X scope u nt js)(hi:PI X E a wi)
  (hg:∀C d s H,PG (blk X scope u C d s H) E g) (ht:∀C d s H,pQ (blk X scope u C d s H) f tc) (he:∀C d s H,PE (blk X scope u C d s H) j te)
  (F:jk (.ListComp j [⟨E,a,f,0⟩] scope pos) (Z9 (.Name y G)) k.line X.env=pure Z7)
  (hs:∀x,gf a X.env x=pure x:=by intro _;rfl):PS X (.Assign [.Name y G] (.ListComp j [⟨E,a,f,0⟩] scope pos) k) (OL i (xJ wi g tc te (fH nt js))):=by
 intro c s J H D I h;rw[exec_Assign_Name_used _ _ _ _ F];apply ah;apply il;apply ah;refine ah (ez (mn (use:=Z9 (qe (.Name y G) X.env)) rfl hs (HP λz hz hf=>I.ok.has z.1 (B.frees z hz hf)) B.kind B.names (aM (hi c s J H _ I h) λv K h1=>aM h1 λxn s2 h2=>?_)) (λ_ S hq=>bv (bv hq)) λ_ _ e=>e);refine z5m (Q:=λv H1=>D.nx (J.set i (Z9 v)) H1) (RR:=λL C=>compPost (model X.prog X.w) X.A X.xe (Z9 (qe (.Name y G) X.env)) (λ_ S=>SP X c D .next S) L C) hc B hg ht he h2 ?_;intro l C T K ns U V nF nC nS nP M q;obtain⟨m,hn⟩:=ns;have W:=M K.heap (.refl ..);obtain⟨t,es,ep,O,n,P⟩:=id hn
 have I2:Inv X (c++[(C,t)]) J T K:=W.gX λp hp=>(bu.mp hp).elim (λz=>W.pin p (bf _ z)) λz=>by
  have e:p=(C,t):=by simpa using z
  subst e;exact⟨O,U,V,nF,λv z=>by have Y:=z;rw[n]at Y;cases Y⟩
 refine qj (z6i I2 hN hy (.inl R) (v:=.ref l) rfl (λug r=>?_) (.inr R));refine⟨m,⟨t,es,ep,(r.pin (C,t) (bf _ (bf _ (az.mpr rfl)))).1,n,P⟩,λh' sb=>⟨_,T,?_,q⟩⟩;exact(r.bX).turned (λb o hb e=>sb.extBut b o hb e) U V (.inr nS) nC nP
theorem zu8 {J:It}{g:TG}{tc:TT}{te:TE}{Q:VK}(P:Nat->List V->Hp->Prop)(hn:n<=ba)(h0:P 0 [] (upd A l (.lst [])))
  (q:∀i a H,P i a H->a.length<=i)
  (h:∀a H,P n a H->J.stop n H/\Q (.ref l) H) (u:∀i a H,i<n->P i a H->J.go i H)
  (r:∀i a H x j,i<n->P i a H->J.gY i H x j->g x k j λc v=>fX k c/\tc c v λb s=>if b=Z7 then te c s λy t=>t l=Z9 (.lst a)/\P (i+1) (a++[y]) (upd t l (.lst (a++[y])))else P (i+1) a s):
  ∃P:Nat->Nat->List V->Hp->Prop,(∃m,P 0 m [] (upd A l (.lst [])))/\∀i m a f,P i m a f->(J.stop i f/\Q (.ref l) f)\/(J.go i f/\a.length<ba/\∃N:List V->Hp->Prop,(∀d w,N d w->∃z,z<m/\P (i+1) z d w)/\∀x j,J.gY i f x j->g x k j λc v=>fX k c/\tc c v λb s=>if b=Z7 then te c s λy t=>t l=Z9 (.lst a)/\N (a++[y]) (upd t l (.lst (a++[y])))else N a s):=by
 refine⟨λi m a H=>i<=n/\m=n-i/\P i a H,⟨n,c9 _,rfl,h0⟩,?_⟩
 rintro i m a f ⟨C,rfl,p⟩
 by_cases o:i<n
 .have D:=q i a f p;exact .inr ⟨u i a f o p,by omega,P (i+1),λd w B=>⟨n-(i+1),by omega,o,rfl,B⟩,λx j y=>r i a f x j o p y⟩
 .have e:i=n:=by omega
  subst e;exact .inl (h a f p)
def xO:V->Option Int->Option Int->Hp->VK->Prop:=λx lo hi H Q=>∃z,x=.str z/\z.length<=ba/\Q (.str (Txt.slice z lo hi)) H
theorem zW:pO X xO:=by
 rintro b s h H x v r w m n sl Q I p hs pl f ⟨z,rfl,c,q⟩
 obtain⟨t,rfl⟩:=p;refine⟨"str",_,PySem.F.slot_str_getitem.lookup,sx _ _ _,?_⟩;obtain⟨o,d,hc,hd⟩:=hs;have a:∀g k,EP X b h Q (.str (Txt.slice z m n) g) {s with toks:=k}:=λg k=>⟨.str _,H,I.tok _,⟨_,rfl⟩,q⟩;cases pl with
 |none=>
  cases f with
  |none=>exact iw (l:=Z8) (u:=Z8) (st:=Z8) ⟨o,d,hc,hd⟩ rfl (lr ⟨bj (Txt.slice_le z _ _) c,a⟩)
  |int j e=>exact iw (l:=Z8) (u:=Z9 (j,e)) (st:=Z8) ⟨o,d,hc,hd⟩ rfl (lr ⟨bj (Txt.slice_le z _ _) c,a⟩)
 |int i ti=>
  cases f with
  |none=>exact iw (l:=Z9 (i,ti)) (u:=Z8) (st:=Z8) ⟨o,d,hc,hd⟩ rfl (lr ⟨bj (Txt.slice_le z _ _) c,a⟩)
  |int j e=>exact iw (l:=Z9 (i,ti)) (u:=Z9 (j,e)) (st:=Z8) ⟨o,d,hc,hd⟩ rfl (lr ⟨bj (Txt.slice_le z _ _) c,a⟩)
def Own (K:Z5)(mg:Str->Option Value)(x:Str)(st:Stmt)(ps:List Str):Prop:=∃f fd,Fun K x x st f fd/\mg x=Z9 (.ref f)/\Z2 K (.ref f)=Z7/\Binds K fd ps []
def Cal (P:cu)(w:World)(K:Z5)(mg:Str->Option Value)(base:Heap)(k:Nat)(x:Str)(ps:List Str)(sp:Sp):Prop:=∃f fd,FnOk P w K mg base nD k f fd ps sp/\mg x=Z9 (.ref f)/\Z2 K (.ref f)=Z7/\Binds K fd ps []
section
variable {K:Z5}{mg:Str->Option Value}
theorem znx {st:Stmt}{kV:Value}(X:K.In h)(G:h.Ns bt mg)
  (a:ZY K bt x=Z9 (Z9 (.ref f))) (l:K.lookup f=Z9 ⟨oc,od,.func (Z0 x x (z0m st) (z0e st) (z0a st) .none kV e i an d ct),j⟩) (c:ZZ K d x=Z7) (k:Z2 K (.ref f)=Z7)
  (b:∀kV e i an d ct g,g.length=ps.length->jg (Z0 x x (z0m st) (z0e st) (z0a st) .none kV e i an d ct) ⟨g,[]⟩=pure (ps.zip g)):Own K mg x st ps:=
 ⟨f,_,Ck l c k,W.mg_of X G a,k,(Ck l c k).binds b⟩
end
def isStar:Expr->Bool
 |.Starred ..=>Z7
 |_=>Z6
theorem eQ (h:isStar e=Z6):dj (e::es) env=(Z6,eval e env)::dj es env:=by cases e<;>first|rfl|cases h
theorem mJ:∀{es:List Expr},(es.all λe=> !isStar e)=Z7->(jn pos (dj es env)).any (·.1)=Z6
 | [],_=>rfl
 |e::es,h=>by have a:=au.mp (db▸h);rw[eQ (by simpa using a.1)];show(Z6||(jn pos (dj es env)).any (·.1))=Z6;rw[mJ a.2];rfl
section
variable {X:Cx}{x:Str}{p pos:Pos}{e:Expr}{es:List Expr}{t:TA}{id:String}{r:List V->Hp->VK->Prop}
theorem eU (a:PE X e te)(hr:PA X es t)(hs:isStar e=false:=by rfl):PA X (e::es) (oY te t):=zR a hr (eQ hs)
theorem zX (hc:CallR X (.builtin id) r)(hm:X.mg x=Z8)(c:dk x=Z9 (.builtin id))(d:PA X (e::es) t)(a:((e::es).all λe=> !isStar e)=true:=by rfl)(f:Gl X x:=by rfl)(hn:x≠"__name__":=by decide)(b:Xv x:=by decide):PE X (.Call (.Name x p) (e::es) [] pos) (mX r t):=by rw[db,cg]at a;exact zi1 hc f hm c d hn b (eQ (by simpa using a.1)) (mJ a.2)
theorem zY (hc:CallR X (.type T) r)(hm:X.mg x=Z8)(c:dk x=Z9 (.type T))(d:PA X (e::es) t)(a:((e::es).all λe=> !isStar e)=true:=by rfl)(f:Gl X x:=by rfl)(hn:x≠"__name__":=by decide)(b:Xv x:=by decide):PE X (.Call (.Name x p) (e::es) [] pos) (mX r t):=by rw[db,cg]at a;exact zcf hc f hm c d hn b (eQ (by simpa using a.1)) (mJ a.2)
theorem zgf (C:Cal X.prog X.w X.K X.mg X.base k x ps d)(hr:Room g X.A)(h:PA X (e::es) t)(a:((e::es).all fun e=> !isStar e)=true:=by rfl)(i:k<=g:=by decide)(j:Gl X x:=by rfl)
  (c:Xv x:=by decide):PE X (.Call (.Name x p) (e::es) [] pos) (oZ d [] E0 t):=by
 obtain⟨f,fd,F,m,kp,b⟩:=C;rw[db,cg]at a;exact ze8 F (hr.mono i) j m kp b .nil OC h c (eQ (by simpa using a.1)) (mJ a.2)
end
def kI:Expr->Bool
 |.ListComp ..=>Z7
 |.SetComp ..=>Z7
 |.DictComp ..=>Z7
 |_=>Z6
theorem uq (h:kI e=Z6)(a:Option Expr)(n:Nat)(env:Env):jk e a n env=pure false:=by cases e<;>first|rfl|cases h
theorem xP (hN:X.N.Nodup)(a:X.N[i]?=Z9 x)(b:Loc X.env.scope x)(c:PE X e te)(hs:kI e=false:=by rfl)(hf:X.fn x=Z7\/X.env.scope.names.lookup x=Z9 .local:=by first|exact .inl rfl|exact .inr rfl|assumption): PS X (.Assign [.Name x pos'] e pos) (lC te (rX i)):=zd5 hN a b c (uq hs _ _ _) hf
theorem nH (a:PE X e te)(hs:kI e=false:=by rfl):PS X (.Expr e pos) (tW te):=Ny a (uq hs _ _ _)
def Cy (K:Z5):R2:=λx y H Q=>mG (λi j=>.int (i+j)) x y H Q\/(∃i j,x=.str i/\y=.str j/\i.length+j.length<=ba/\Q (.str (i++j)) H)
def xQ:R2:=λx y H Q=>mG (λi j=>.bl (decide (i<j))) x y H Q
def xR:R2:=λx y H Q=>mG (λi j=>.bl (decide (i<=j))) x y H Q
def xS:R2:=λx y H Q=>mG (λi j=>.bl (decide (j<i))) x y H Q
def Cz (K:Z5):V->Option Int->Option Int->Hp->VK->Prop:=λx lo hi H Q=>xF K x lo hi H Q\/xO x lo hi H Q
def OM (K:Z5):List V->Hp->VK->Prop:=λxs H Q=>(∃z,xs=[.str z]/\z.length<=ba/\Q (.int z.length) H)\/(∃p ys,xs=[.ref p]/\(SqL K H p ys\/dD K H p ys)/\Q (.int ys.length) H)
theorem ON:OpR X (jf .Add) (Cy X.K):=NL.or NV
theorem CB:OpR X (dz .Lt) xQ:=NR
theorem CD:OpR X (dz .LtE) xR:=NS
theorem CF:OpR X (dz .Gt) xS:=NT
theorem OO:mH X (xE X.K):=HI
theorem OP:pO X (Cz X.K):=Ot.or zW
theorem OQ:CallR X (.builtin "len") (OM X.K):=Ov.or Ou
def fY (t T:String):Bool:=t==T||(t=="bool"&&T=="int")
def pR:List String:=["NoneType","bool","int","str","list","tuple","dict"]
def tysB:List String:=["str","int","bool","tuple","list"]
theorem OR (K:Z5):∀t∈pR,∀T∈tysB,W.kitOne K (.type t) (.type T)=Z9 (fY t T):=by intro t a T b;simp only[pR,bq,gv,or_false]at a;simp only[tysB,bq,gv,or_false]at b;rcases a with rfl|rfl|rfl|rfl|rfl|rfl|rfl<;>rcases b with rfl|rfl|rfl|rfl|rfl<;>kernel_rfl
section
variable {H:Hp}{Q:VK}{K:Z5}
theorem OS (h:Q (.int (i+j)) H):Cy K (.int i) (.int j) H Q:=.inl ⟨i,j,rfl,rfl,h⟩
theorem OT {i j:Str}(c:i.length+j.length<=ba)(h:Q (.str (i++j)) H):Cy K (.str i) (.str j) H Q:=.inr ⟨i,j,rfl,rfl,c,h⟩
theorem OU {i j:Int}(h:Q (.bl (decide (i<j))) H):xQ (.int i) (.int j) H Q:=⟨i,j,rfl,rfl,h⟩
theorem OV {i j:Int}(h:Q (.bl (decide (i<=j))) H):xR (.int i) (.int j) H Q:=⟨i,j,rfl,rfl,h⟩
theorem OW {i j:Int}(h:Q (.bl (decide (j<i))) H):xS (.int i) (.int j) H Q:=⟨i,j,rfl,rfl,h⟩
end
theorem Same.upd (h:H p=Z8):Same H (L2.upd H p o):=λb u e=>by rw[aG (bR e h)];exact e
theorem HX (h:n<=1000):n<=ba:=bj h (by rw[cb];decide)
end L2
namespace Mi
open PySem
abbrev D:=av
set_option genInjectivity true in
inductive Res (α:Type) where
 |ok (a:α)|exc (e:D)|no
namespace Res
def bind {α β:Type}(x:Res α)(f:α->Res β):Res β:=match x with
 |.ok a=>f a
 |.exc e=>.exc e
 |.no=>.no
instance:Monad Res where
 pure:=.ok
 bind:=Res.bind
theorem aB {b c:Type}(a:b)(f:b->Res c):(Res.ok a>>=f)=f a:=rfl
def eG {α:Type}:Option α->Res α
 |some a=>.ok a
 |none=>.no
theorem aA {c d:Type}{x:Res c}{f:c->Res d}{b:d}(h:(x>>=f)=.ok b):∃a,x=.ok a/\f a=.ok b:=by
 cases x with
 |ok a=>exact⟨a,rfl,h⟩
 |exc e=>cases h
 |no=>cases h
end Res
mutual
def imm:av->Bool
 |.tuple xs=>imms xs
 |.list _=>Z6
 |.dict _=>Z6
 |.none=>Z7
 |.bool _=>Z7
 |.int _=>Z7
 |.str _=>Z7
def imms:List av->Bool
 | []=>Z7
 |x::xs=>imm x&&imms xs
end
theorem pS:∀{a:List D},imms a=Z7↔∀x∈a,imm x=Z7
 | []=>by simp[imms]
 |x::a=>by rw[imms,cg,pS];simp
abbrev gI:D->D->Bool:=PyData.eqv
mutual
def bE:Nat->av->Bool
 |0,.tuple _=>Z6
 |0,.list _=>Z6
 |n+1,.tuple xs=>fZ n xs
 |n+1,.list xs=>fZ n xs
 |_,.dict _=>Z6
 |_,.none=>Z7
 |_,.bool _=>Z7
 |_,.int _=>Z7
 |_,.str _=>Z7
def fZ:Nat->List av->Bool
 |_,[]=>Z7
 |n,x::xs=>bE n x&&fZ n xs
end
theorem pA:∀{a:List D},fZ n a=Z7↔∀x∈a,bE n x=Z7
 | []=>by simp[fZ]
 |x::a=>by rw[fZ,cg,pA];simp
def truth:av->Bool
 |.none=>Z6
 |.bool b=>b
 |.int i=>!decide (i=0)
 |.str x=>!decide (x.length=0)
 |.tuple xs=>!xs.isEmpty
 |.list xs=>!xs.isEmpty
 |.dict es=>!es.isEmpty
def gE (n:Nat)(i:Int):Option Nat:=if 0<=i then(if i<n then Z9 i.toNat else Z8)else if -(n:Int)<=i then Z9 (i+n).toNat else Z8
def bT {α:Type}(xs:List α)(i:Int):Option α:=(gE xs.length i).bind λj=>xs[j]?
def dO (n d:Nat):Option Int->Nat
 |none=>d
 |some v=>if v<0 then(v+(n:Int)).toNat else min v.toNat n
def cut {α:Type}(xs:List α)(lo hi:Option Int):List α:=(xs.drop (dO xs.length 0 lo)).take (dO xs.length xs.length hi-dO xs.length 0 lo)
def eqK:av->av->Bool
 |.int a,y=>match y with|.int b=>a==b|_=>Z6
 |.str a,y=>match y with|.str b=>decide (a=b)|_=>Z6
 |_,_=>Z6
def iW:av->Bool
 |.int _=>Z7
 |.str _=>Z7
 |_=>Z6
abbrev bA:=List (D×D)
def z0g (es:bA)(k:D):Option D:=(es.find? λe=>eqK e.1 k).map (·.2)
def dput (es:bA)(k v:D):bA:=if es.any (λe=>eqK e.1 k)then es.map (λe=>if eqK e.1 k then(e.1,v)else e)else es++[(k,v)]
def ent (e:D×D):D:=.tuple [e.1,e.2]
def iX:bA->List D->Option bA
 |es,[]=>Z9 es
 |es,p::ps=>match p with
  |.tuple [k,v]=>if iW k then iX (dput es k v) ps else Z8
  |_=>Z8
mutual
def vQ:av->av->Bool
 |.int a,y=>match y with|.int b=>decide (a<b)|_=>Z6
 |.str a,y=>match y with|.str b=>decide (a.cps.toList<b.cps.toList)|_=>Z6
 |.tuple xs,y=>match y with|.tuple ys=>xT xs ys|_=>Z6
 |.none,_=>Z6
 |.bool _,_=>Z6
 |.list _,_=>Z6
 |.dict _,_=>Z6
def xT:List av->List av->Bool
 | [],ys=>!ys.isEmpty
 |x::xs,ys=>match ys with|y::ys=>if gI x y then xT xs ys else vQ x y| []=>Z6
end
open PySem.W
def runK {α:Type}(lt:Nat->Nat->Bool):KasT α->α
 |.ret a=>a
 |.ask i j k=>runK lt (k (lt i j))
abbrev dP:D:=.tuple [.str ⟨#[]⟩,.int 0]
def ur (xs:List D):List D:=if xs.length<2 then xs else(runK (λi j=>vQ (xs.getD i dP) (xs.getD j dP)) (kas_sort xs.length)).toList.map λi=>xs.getD i dP
def isP2:D->Bool
 |.tuple [.str _,.int _]=>Z7
 |_=>Z6
theorem OX (h:isP2 d=Z7):∃z k,d=.tuple [.str z,.int k]:=by
 cases d<;>try (cases h;done)
 rename_i l;rcases l with _|⟨a,_|⟨b,_|_⟩⟩<;>try (cases h;done)
 .cases a<;>cases h
 .cases a<;>try (cases h;done)
  cases b<;>try (cases h;done)
  exact⟨_,_,rfl⟩
 .cases a<;>try (cases h;done)
  cases b<;>cases h
def uu (n:Nat):KasT (Array Nat)->Bool
 |.ret a=>a.toList.isPerm (bw n)
 |.ask i j k=>(decide (i<n)&&decide (j<n))&&(uu n (k Z7)&&uu n (k Z6))
theorem HY (h:2<=n)(a:n<4):uu n (kas_sort n)=true:=by
 obtain rfl|rfl:n=2\/n=3:=by omega
 all_goals decide+kernel
theorem HZ (h:uu n (.ask i j k)=Z7)(b:Bool):uu n (k b)=true:=by
 have:=(au.mp (au.mp h).2);cases b
 .exact this.2
 .exact this.1
theorem CG:∀{t:KasT (Array Nat)},uu n t=Z7->(runK lt t).toList.Perm (bw n)
 |.ret a,h=>List.isPerm_iff.mp h
 |.ask i j k,h=>CG (t:=k (lt i j)) (HZ h (lt i j))
section
inductive G where
 |fr|od|al|nu
 deriving Inhabited,DecidableEq
abbrev Rho:=List (Option (G×D))
abbrev GD:=G×D
inductive Tg where
 |nm (i:Nat)|tp (is:List Nat)
 deriving Inhabited,DecidableEq
inductive C where
 |var (i:Nat)|aO|bl (b:Bool)|int (i:Int)|str (x:Str)|glob (k:Nat) (x:Str)|bin (op:qv) (a b:C)|neg (a:C)|cmp (op:CmpOp) (a b:C)|iY (neg:Bool) (a:C)|and (a b:C)|or (a b:C)|not (a:C)|sD (c a b:C)|tup (xs:C)|lst (xs:C)|hG|ix (a b:C)|sl (a lo hi:C)|call (k:Nat) (f:Str) (args:C)|bi (f:String) (args:C)|kJ (f:String) (a:C)|fY (a:C) (ts:List String)|mt (m:String) (o args:C)|comp (nt:Nat) (js:List Nat) (N':List Str) (tg:Tg) (it cond elt:C)|eI (args:C)|enum (a:C)|tv (a:C)|uw (b:Bool) (x:Str)|nil|cons (a r:C)
 deriving Inhabited
inductive S where
 |nil|seq (a b:S)|bad|asg (t:Tg) (e:C)|mut (m:String) (i:Nat) (args:C)|drop (e:C)|ret (e:C)|bN (c:C) (a b:S)|bH (t:Tg) (it:C) (b:S)|wh (n:Nat) (c:C) (b:S)|jI (c:Str)
 deriving Inhabited
inductive Out where
 |nx (ρ:Rho)|rt (g:G) (d:D)
abbrev Fn:=List D->Res GD
def aT:Nat:=1000000
def Ia:G->G
 |.fr=>.al
 |.od=>.od
 |.al=>.al
 |.nu=>.nu
def xU:Option (Option GD)->Res GD
 |some (Z9 (g,d))=>.ok (if imm d then .fr else Ia g,d)
 |_=>.no
def kK:D->Res Bool
 |.str x=>if x.length<=aT then .ok (!decide (x.length=0))else .no
 |d=>.ok (truth d)
def kL:G->G
 |.fr=>.fr
 |.od=>.al
 |.al=>.al
 |.nu=>.fr
def agG:G->G
 |.fr=>.fr
 |.od=>.al
 |.al=>.al
 |.nu=>.nu
def gJ (d:D)(g:G):G:=if imm d then .fr else g
def gN (d:D)(g:G):G:=match d with
 |.list xs=>if imms xs then .fr else g
 |d=>gJ d g
def cN (xs:List GD):G:=if xs.all (λx=>x.1==.fr)then .fr else if xs.all (λx=>x.1==.fr||x.1==.nu)then .nu else .al
def sE (xs:List GD):G:=if xs.all (λx=>x.1==.fr)then .fr else .al
def okIn (x:GD):Bool:=imm x.2||(x.1==.fr||x.1==.nu)
def cO (es:bA):Bool:=es.all λe=>imm e.2
def z1o:GD->GD
 |(g,d)=>if imm d then(.al,d)else match g,d with
  |.fr,.list xs=>(if imms xs then .fr else .nu,.list xs)
  |.fr,.dict es=>(if cO es then .fr else .nu,.dict es)
  |.fr,d=>(.nu,d)
  |.nu,d=>(.nu,d)
  |.od,d=>(.od,d)
  |.al,d=>(.al,d)
def z1f:GD->GD
 |(g,d)=>match g with|.od=>(.od,d)|_=>(.al,d)
def fI:Option GD->Option GD
 |some (.fr,d)=>Z9 (.al,d)
 |some (.nu,d)=>Z9 (.al,d)
 |s=>s
def pT:Option GD->Option GD
 |some (.al,d)=>if imm d then Z9 (.al,d)else Z8
 |s=>s
def ux:Rho->List Nat->List D->G->Option Rho
 |ρ,[],[],_=>Z9 ρ
 |ρ,i::is,d::ds,g=>ux (ρ.set i (Z9 (z1f (gJ d g,d)))) is ds g
 |_,_,_,_=>Z8
def fD:Tg->GD->Rho->Res Rho
 |.nm i,x,ρ=>.ok (ρ.set i (Z9 (z1f x)))
 |.tp is,(g,.tuple ds),ρ=>Res.eG (ux ρ is ds g)
 |_,_,_=>.no
def CH:D->Res D
 |.str x=>if x.length<=aT then .ok (.int x.length)else .no
 |.tuple xs=>.ok (.int xs.length)
 |.list xs=>.ok (.int xs.length)
 |.dict es=>.ok (.int es.length)
 |_=>.no
def eC:qv->D->D->Res D
 |.Add,.int a,.int b=>.ok (.int (a+b))
 |.Add,.str a,.str b=>if a.length+b.length<=aT then .ok (.str (a++b))else .no
 |.Add,.list a,.list b=>if a.length+b.length<=aT then .ok (.list (a++b))else .no
 |.Sub,.int a,.int b=>.ok (.int (a-b))
 |.Mult,.int a,.int b=>if(-(2 ^ 64)<a/\a<2 ^ 64)\/(-(2 ^ 64)<b/\b<2 ^ 64)then .ok (.int (a*b))else .no
 |.FloorDiv,.int a,.int b=>if 0<b/\b<2 ^ 200 then .ok (.int (a/b))else .no
 |.Mod,.int a,.int b=>if 0<b then .ok (.int (a%b))else .no
 |.Pow,.int a,.int b=>if 0<=b/\b<=1000/\a.natAbs<2 ^ 64 then .ok (.int (a ^ b.toNat))else .no
 |_,_,_=>.no
def inD (x:D):D->Res Bool
 |.list xs=>if bE 40 x&&fZ 40 xs then .ok (xs.any λy=>gI y x)else .no
 |.tuple xs=>if bE 40 x&&fZ 40 xs then .ok (xs.any λy=>gI y x)else .no
 |.dict es=>if iW x then .ok (z0g es x).isSome else .no
 |_=>.no
def cmpD:CmpOp->D->D->Res Bool
 |.Eq,x,y=>if bE 40 x&&bE 40 y then .ok (gI x y)else .no
 |.NotEq,x,y=>if bE 40 x&&bE 40 y then .ok (!gI x y)else .no
 |.Lt,.int a,.int b=>.ok (decide (a<b))
 |.LtE,.int a,.int b=>.ok (decide (a<=b))
 |.Gt,.int a,.int b=>.ok (decide (b<a))
 |.In,x,y=>inD x y
 |.NotIn,x,y=>inD x y>>=λb=>.ok (!b)
 |_,_,_=>.no
def dQ:D->D->Res D
 |.list xs,.int i=>Res.eG (bT xs i)
 |.tuple xs,.int i=>Res.eG (bT xs i)
 |.str z,.int i=>if z.length<=aT then Res.eG ((bT z.cps.toList i).map λc=>.str ⟨#[c]⟩)else .no
 |.dict es,k=>if iW k then Res.eG (z0g es k)else .no
 |_,_=>.no
def mK (z:Str)(lo hi:Option Int):Str:=⟨(cut z.cps.toList lo hi).toArray⟩
def pU:D->Option Int->Option Int->Res D
 |.list xs,lo,hi=>.ok (.list (cut xs lo hi))
 |.str z,lo,hi=>if z.length<=aT then .ok (.str (mK z lo hi))else .no
 |_,_,_=>.no
def uy:D->Res (Option Int)
 |.int i=>.ok (Z9 i)
 |_=>.no
def z54:D->Res (List D)
 |.list xs=>.ok xs
 |.tuple xs=>.ok xs
 |_=>.no
def iI:List D->Option (List Str)
 | []=>Z9 []
 |.str b::r=>(iI r).map (b:: ·)
 |_=>Z8
def z55:D->Res (Bool×List D)
 |.list xs=>.ok (Z7,xs)
 |.tuple xs=>.ok (Z6,xs)
 |_=>.no
def aggD (f:String)(l:Bool)(xs:List D):Res D:=
 if f="list"then .ok (.list xs)
 else if f="tuple"then .ok (.tuple xs)
 else if f="sorted"then(if l&&xs.all isP2&&decide (xs.length<4)then .ok (.list (ur xs))else .no)
 else if f="dict"then Res.eG ((iX [] xs).map .dict)
 else .no
def vI:D->Option Int
 |.int i=>Z9 i
 |_=>Z8
def min2 (x y:D):Res D:=Res.eG ((vI x).bind λa=>(vI y).map λb=>.int (min a b))
def minD (xs:List D):Res D:=if xs.length=2 then min2 (xs.getD 0 .none) (xs.getD 1 .none)else .no
def iZ (f:String)(xs:List D):Res D:=
 if f="len"then(match xs with| [x]=>CH x|_=>.no)
 else if f="max"then(match xs with| [.int a,.int b]=>.ok (.int (max a b))|_=>.no)
 else if f="int"then(match xs with| [.int a]=>.ok (.int a)| [.bool b]=>.ok (.int (if b then 1 else 0))|_=>.no)
 else if f="min"then minD xs
 else .no
def hJ:D->String
 |.none=>"NoneType"|.bool _=>"bool"|.int _=>"int"|.str _=>"str"|.tuple _=>"tuple"|.list _=>"list"|.dict _=>"dict"
def jJ (t T:String):Bool:=t==T||(t=="bool"&&T=="int")
def zZ (sep:List Nat):List Str->List Nat
 | []=>[]
 |x::r=>x.cps.toList++(r.map λp=>sep++p.cps.toList).flatten
def sF (sep:Str)(xs:List Str):Str:=⟨(zZ sep.cps.toList xs).toArray⟩
def CJ (sep:Str)(xs:List Str):Nat:=(xs.map (·.length)).sum+xs.length*sep.length
def mtD (m:String)(o:D)(xs:List D):Res D:=
 if m="get"then(match o,xs with|.dict es,[k,d]=>if iW k then .ok ((z0g es k).getD d)else .no|_,_=>.no)
 else if m="join"then(match o,xs with|.str z,[.list ys]=>(match iI ys with|some ss=>if CJ z ss<=aT then .ok (.str (sF z ss))else .no|none=>.no)|_,_=>.no)
 else .no
def hP:List D->Res (List D)
 | [.int n]=>if n<=aT/\-aT<=n then .ok ((bw n.toNat).map λ(i:Nat)=>.int i)else .no
 | [.int a,.int b]=>if -aT<=a/\b<=aT/\a<=aT/\-aT<=b then .ok ((bw (b-a).toNat).map λ(i:Nat)=>.int (a+i))else .no
 | [.int a,.int b,.int c]=>if -aT<=a/\b<=aT/\a<=aT/\-aT<=b/\0<c/\c<=aT then .ok ((bw (if a<b then((b-a-1)/c+1).toNat else 0)).map λ(i:Nat)=>.int (a+i*c))else .no
 |_=>.no
def z2g:Nat->List D->List D
 |_,[]=>[]
 |i,x::xs=>.tuple [.int i,x]::z2g (i+1) xs
def seqR:D->Res (List D)
 |.list xs=>if decide (xs.length<=aT)then .ok xs else .no
 |.tuple xs=>if decide (xs.length<=aT)then .ok xs else .no
 |_=>.no
def oc:Option GD->List GD->List GD
 |some y,r=>y::r
 |none,r=>r
def lG (f:D->Res (Option GD)):List D->Res (List GD)
 | []=>.ok []
 |x::xs=>f x>>=λo=>lG f xs>>=λr=>.ok (oc o r)
variable (Κ:List D)(Φ:List Fn)
mutual
def aL:C->Rho->Res GD
 |.var i,ρ=>xU ρ[i]?
 |.aO,_=>.ok (.fr,.none)
 |.bl b,_=>.ok (.fr,.bool b)
 |.int i,_=>.ok (.fr,.int i)
 |.str x,_=>.ok (.fr,.str x)
 |.uw b _,_=>.ok (.fr,.bool b)
 |.glob k _,_=>match Κ[k]? with|some d=>if imm d then .ok (.fr,d)else .no|none=>.no
 |.bin op a b,ρ=>aL a ρ>>=λx=>aL b ρ>>=λy=>eC op x.2 y.2>>=λd=>.ok (gN d (cN [x,y]),d)
 |.neg a,ρ=>aL a ρ>>=λx=>match x.2 with|.int i=>.ok (.fr,.int (-i))|_=>.no
 |.cmp op a b,ρ=>aL a ρ>>=λx=>aL b ρ>>=λy=>cmpD op x.2 y.2>>=λb=>.ok (.fr,.bool b)
 |.iY ng a,ρ=>aL a ρ>>=λx=>.ok (.fr,.bool (match x.2 with|.none=>!ng|_=>ng))
 |.and a b,ρ=>aL a ρ>>=λx=>match x.2 with|.bool c=>if c then aL b ρ else .ok (.fr,.bool Z6)|_=>.no
 |.or a b,ρ=>aL a ρ>>=λx=>match x.2 with|.bool c=>if c then .ok (.fr,.bool Z7)else aL b ρ|_=>.no
 |.not a,ρ=>aL a ρ>>=λx=>kK x.2>>=λc=>.ok (.fr,.bool (!c))
 |.sD c a b,ρ=>eA c ρ>>=λk=>if k then aL a ρ else aL b ρ
 |.tup xs,ρ=>eF xs ρ>>=λys=>.ok (gJ (.tuple (ys.map (·.2))) (cN ys),.tuple (ys.map (·.2)))
 |.lst xs,ρ=>eF xs ρ>>=λys=>.ok (cN ys,.list (ys.map (·.2)))
 |.hG,_=>.ok (.fr,.dict [])
 |.ix a b,ρ=>aL a ρ>>=λx=>aL b ρ>>=λy=>dQ x.2 y.2>>=λd=>.ok (gJ d x.1,d)
 |.sl a lo hi,ρ=>aL a ρ>>=λx=>uz lo ρ>>=λl=>uz hi ρ>>=λh=>pU x.2 l h>>=λd=>.ok (gN d (cN [x]),d)
 |.call k _ args,ρ=>eF args ρ>>=λys=>match Φ[k]? with|some m=>m (ys.map (·.2))>>=λr=>.ok (gJ r.2 (kL r.1),r.2)|none=>.no
 |.bi f args,ρ=>eF args ρ>>=λys=>iZ f (ys.map (·.2))>>=λd=>.ok (gJ d .al,d)
 |.kJ f a,ρ=>CK a ρ>>=λw=>aggD f w.2.1 w.2.2>>=λd=>.ok (gJ d (if imms w.2.2 then .fr else agG w.1),d)
 |.fY a ts,ρ=>aL a ρ>>=λx=>.ok (.fr,.bool (ts.any λT=>jJ (hJ x.2) T))
 |.mt m o args,ρ=>aL o ρ>>=λx=>eF args ρ>>=λys=>mtD m x.2 (ys.map (·.2))>>=λd=>.ok (gJ d .al,d)
 |.comp nt js _ tg it cond elt,ρ=>evW it ρ>>=λw=>lG (λx=>fD tg (gJ x w.1,x) (ay nt Z8++js.map λj=>fI (ρ.getD j Z8))>>=λρ1=>eA cond ρ1>>=λk=>if k then aL elt ρ1>>=λy=>.ok (Z9 y)else .ok Z8) w.2>>=λys=>.ok (sE ys,.list (ys.map (·.2)))
 |_,_=>.no
def eA:C->Rho->Res Bool
 |.and a b,ρ=>eA a ρ>>=λc=>if c then eA b ρ else .ok Z6
 |.or a b,ρ=>eA a ρ>>=λc=>if c then .ok Z7 else eA b ρ
 |.not a,ρ=>eA a ρ>>=λc=>.ok (!c)
 |.nil,_=>.ok Z7
 |.tv a,ρ=>aL a ρ>>=λx=>kK x.2
 |_,_=>.no
def eF:C->Rho->Res (List GD)
 |.nil,_=>.ok []
 |.cons a r,ρ=>aL a ρ>>=λx=>eF r ρ>>=λxs=>.ok (x::xs)
 |_,_=>.no
def uz:C->Rho->Res (Option Int)
 |.nil,_=>.ok Z8
 |.tv a,ρ=>aL a ρ>>=λx=>uy x.2
 |_,_=>.no
def CK:C->Rho->Res (G×Bool×List D)
 |.tv a,ρ=>aL a ρ>>=λx=>z55 x.2>>=λp=>.ok (x.1,p)
 |_,_=>.no
def evW:C->Rho->Res (G×List D)
 |.eI args,ρ=>eF args ρ>>=λys=>hP (ys.map (·.2))>>=λxs=>.ok (.fr,xs)
 |.tv a,ρ=>aL a ρ>>=λx=>z54 x.2>>=λxs=>.ok (x.1,xs)
 |.enum a,ρ=>aL a ρ>>=λx=>seqR x.2>>=λxs=>.ok (.al,z2g 0 xs)
 |_,_=>.no
end
def pV:Res Out->(Rho->Res Out)->Res Out
 |.ok (.nx ρ),k=>k ρ
 |r,_=>r
def dU (f:D->Rho->Res Out):List D->Rho->Res Out
 | [],ρ=>.ok (.nx ρ)
 |x::xs,ρ=>match f x ρ with
  |.ok (.nx cF)=>dU f xs cF
  |.ok (.rt g d)=>.ok (.rt g d)
  |.exc e=>.exc e
  |.no=>.no
def xV (c:Rho->Res Bool)(f:Rho->Res Out):Nat->Rho->Res Out
 |0,_=>.no
 |n+1,ρ=>c ρ>>=λk=>if k then(match f ρ with
  |.ok (.nx cF)=>xV c f n cF
  |.ok (.rt g d)=>.ok (.rt g d)
  |.exc e=>.exc e
  |.no=>.no)else .ok (.nx ρ)
def nI (m:String)(xs:List D)(ys:List GD):Res (List D):=
 if m="append"then(match ys with| [y]=>if okIn y&&decide (xs.length<aT)then .ok (xs++[y.2])else .no|_=>.no)
 else .no
def lH (ρ:Rho)(i:Nat):Bool:=match ρ[i]? with
 |some (Z9 (.fr,_))=>Z7
 |_=>Z6
def z0 (i:Nat)(ρ:Rho):Res (G×List D×Rho):=match ρ[i]? with
 |some (Z9 (.fr,d))=>z54 d>>=λxs=>.ok (.al,xs,ρ.set i (Z9 (.al,d)))
 |_=>.no
def CL:Option GD->Option GD
 |some (.fr,.list xs)=>Z9 (.al,.list xs)
 |s=>s
def nJ (x:GD)(ρ:Rho):Res (G×List D×Rho):=match x.2 with
 |.list xs=>if imms xs then .ok (.al,xs,ρ.map CL)else .no
 |_=>.no
def z6 (x:GD):Bool:=match x.2 with
 |.list _=>!(x.1==.al)
 |d=>!(x.1==.al)||imm d
def pW (ys:List GD)(ρ:Rho):Res (G×List D×Rho):=match ys with
 | [x]=>if z6 x then seqR x.2>>=λxs=>.ok (.al,z2g 0 xs,ρ)else .no
 |_=>.no
def lI (it:C)(ρ:Rho):Bool:=match evW Κ Φ it ρ with
 |.ok w=>w.1==.al
 |_=>Z6
def sG (it:C)(ρ:Rho):Res (G×List D×Rho):=evW Κ Φ it ρ>>=λw=>if w.1==.al then .no else .ok (w.1,w.2,ρ)
def evF (it:C)(ρ:Rho):Res (G×List D×Rho):=match it with
 |.tv (.var i)=>if lH ρ i then z0 i ρ else if lI Κ Φ it ρ then aL Κ Φ (.var i) ρ>>=λx=>nJ x ρ else sG Κ Φ it ρ
 |.tv a=>if lI Κ Φ it ρ then aL Κ Φ a ρ>>=λx=>nJ x ρ else sG Κ Φ it ρ
 |.enum a=>eF Κ Φ (.cons a .nil) ρ>>=λys=>pW ys ρ
 |it=>sG Κ Φ it ρ
def excOf:Res GD->Option Str
 |.exc (.str c)=>Z9 c
 |_=>Z8
def aV:S->Rho->Res Out
 |.nil,ρ=>.ok (.nx ρ)
 |.seq a b,ρ=>pV (aV a ρ) (aV b)
 |.bad,_=>.no
 |.asg (.nm i) e,ρ=>aL Κ Φ e ρ>>=λx=>.ok (.nx (ρ.set i (Z9 (z1o x))))
 |.asg t e,ρ=>aL Κ Φ e ρ>>=λx=>fD t x ρ>>=λcF=>.ok (.nx cF)
 |.mut m i args,ρ=>eF Κ Φ args ρ>>=λys=>match ρ[i]? with
  |some (Z9 (.fr,.list xs))=>nI m xs ys>>=λxW=>.ok (.nx ((ρ.set i (Z9 (.fr,.list xW))).map pT))
  |_=>.no
 |.drop e,ρ=>aL Κ Φ e ρ>>=λ_=>.ok (.nx ρ)
 |.ret e,ρ=>match e with
  |.var i=>match ρ[i]? with
   |some (Z9 (g,d))=>.ok (.rt (if imm d then .fr else kL g) d)
   |_=>.no
  |e=>aL Κ Φ e ρ>>=λx=>.ok (.rt (kL x.1) x.2)
 |.bN c a b,ρ=>eA Κ Φ c ρ>>=λk=>if k then aV a ρ else aV b ρ
 |.bH t it b,ρ=>evF Κ Φ it ρ>>=λw=>dU (λx ρ1=>fD t (gJ x w.1,x) ρ1>>=λuA=>aV b uA) w.2.1 w.2.2
 |.wh n c b,ρ=>xV (eA Κ Φ c) (aV b) n ρ
 |.jI _,_=>.no
def OY (Κ:List D)(Φ:List Fn)(_:S)(_:Rho):Option Str:=Z8
def aQ (n:Nat)(s:S)(ds:List D):Res GD:=match aV Κ Φ s (ds.map (λd=>Z9 (.od,d))++ay (n-ds.length) Z8)with
 |.ok (.nx _)=>.ok (.fr,.none)
 |.ok (.rt g d)=>.ok (g,d)
 |_=>match OY Κ Φ s (ds.map (λd=>Z9 (.od,d))++ay (n-ds.length) Z8)with
  |some c=>.exc (.str c)
  |none=>.no
end
open PySem.Spec PyProof.Rows L2
def kD:Key->D
 |.inl i=>.int i
 |.inr x=>.str x
def keyOk:Key->Prop
 |.inl _=>True
 |.inr x=>ZW x=Z7
def KL (K:Z5)(a:Addr)(xs:List V):Prop:=∃(o:Obj) (fC:Array Value) (n:Nat),K.lookup a=Z9 o/\o.cls=.type "list"/\o.dict=Z8/\o.data=.seq fC n/\fC.size<=ba/\Vals xs fC.toList
abbrev Ad:=Option Addr
def FL (K:Z5)(H:Hp)(a:Addr)(xs:List V):Prop:=(∃o,H a=Z9 (.fV o (.lst xs)))\/KL K a xs
def nw (H:Hp):Ad->Prop
 |some a=>H a=Z8
 |none=>False
section
variable (K:Z5)(H:Hp)(B:Ad->Prop)
mutual
def Rep:V->av->Prop
 |v,.none=>v=.aO
 |v,.bool b=>v=.bl b
 |v,.int i=>v=.int i
 |v,.str x=>v=.str x/\ZW x=Z7
 |v,.tuple ds=>∃a vs,v=.ref a/\dD K H a vs/\Reps vs ds
 |v,.list ds=>∃a vs,v=.ref a/\((H a=Z9 (.lst vs)/\B (Z9 a))\/(FL K H a vs/\B Z8))/\Reps vs ds
 |v,.dict es=>∃a kvs,v=.ref a/\H a=Z9 (.dK kvs)/\B (Z9 a)/\aZ kvs es
def Reps:List V->List av->Prop
 |vs,[]=>vs=[]
 |vs,d::ds=>∃v r,vs=v::r/\Rep v d/\Reps r ds
def aZ:List (Key×V)->List (av×av)->Prop
 |kvs,[]=>kvs=[]
 |kvs,(kd,d)::es=>∃k v r,kvs=(k,v)::r/\kd=kD k/\keyOk k/\Rep v d/\aZ r es
end
end
def Fix:HO->Prop
 |.tup _=>True
 |.fV _ (.lst _)=>True
 |.fV _ (.tup _)=>True
 |_=>False
section
variable {K:Z5}{H H':Hp}{B B':Ad->Prop}
theorem FL.keep (b:∀a o,H a=Z9 o->(B (Z9 a)\/Fix o)->H' a=Z9 o)(r:FL K H a c):FL K H' a c:=by
 rcases r with⟨o,r⟩|r
 .exact .inl ⟨o,b a _ r (.inr True.intro)⟩
 .exact .inr r
theorem _root_.L2.dD.keep (b:∀a o,H a=Z9 o->(B (Z9 a)\/Fix o)->H' a=Z9 o)(r:dD K H a c):dD K H' a c:=by
 rcases r with(r|⟨o,r⟩)|r
 .exact .inl (.inl (b a _ r (.inr True.intro)))
 .exact .inl (.inr ⟨o,b a _ r (.inr True.intro)⟩)
 .exact .inr r
mutual
theorem Rep.keep (hH:∀a o,H a=Z9 o->(B (Z9 a)\/Fix o)->H' a=Z9 o)(hB:∀a,B a->B' a):∀{v:V} (d:av),Rep K H B v d->Rep K H' B' v d
 |v,.none,r=>r
 |v,.bool b,r=>r
 |v,.int i,r=>r
 |v,.str x,r=>r
 |v,.tuple ds,r=>by obtain⟨a,vs,e,h,q⟩:=r;exact⟨a,vs,e,h.keep hH,Reps.keep hH hB ds q⟩
 |v,.list ds,r=>by
  obtain⟨a,vs,e,h,q⟩:=r;refine⟨a,vs,e,?_,Reps.keep hH hB ds q⟩;rcases h with⟨h,b⟩|h
  .exact .inl ⟨hH a _ h (.inl b),hB _ b⟩
  .exact .inr ⟨FL.keep hH h.1,hB _ h.2⟩
 |v,.dict es,r=>by obtain⟨a,kvs,e,h,b,q⟩:=r;exact⟨a,kvs,e,hH a _ h (.inl b),hB _ b,aZ.keep hH hB es q⟩
theorem Reps.keep (hH:∀a o,H a=Z9 o->(B (Z9 a)\/Fix o)->H' a=Z9 o)(hB:∀a,B a->B' a):∀{vs:List V} (ds:List av),Reps K H B vs ds->Reps K H' B' vs ds
 |vs,[],r=>r
 |vs,d::ds,r=>by obtain⟨v,t,e,h,q⟩:=r;exact⟨v,t,e,Rep.keep hH hB d h,Reps.keep hH hB ds q⟩
theorem aZ.keep (hH:∀a o,H a=Z9 o->(B (Z9 a)\/Fix o)->H' a=Z9 o)(hB:∀a,B a->B' a):∀{kvs:List (Key×V)} (es:List (av×av)),aZ K H B kvs es->aZ K H' B' kvs es
 |kvs,[],r=>r
 |kvs,(kd,d)::es,r=>by obtain⟨k,v,t,e,e2,ok,h,q⟩:=r;exact⟨k,v,t,e,e2,ok,Rep.keep hH hB d h,aZ.keep hH hB es q⟩
end
theorem Rep.same (s:Same H H')(b:∀a,B a->B' a)(r:Rep K H B v d):Rep K H' B' v d:=Rep.keep (λa o e _=>s a o e) b d r
theorem Reps.same (s:Same H H')(b:∀a,B a->B' a)(r:Reps K H B c ds):Reps K H' B' c ds:=Reps.keep (λa o e _=>s a o e) b ds r
theorem aZ.same (s:Same H H')(b:∀a,B a->B' a)(r:aZ K H B c ds):aZ K H' B' c ds:=aZ.keep (λa o e _=>s a o e) b ds r
theorem Rep.weak (b:∀a,B a->B' a)(r:Rep K H B v d):Rep K H B' v d:=r.same (λ_ _ e=>e) b
theorem Reps.weak (b:∀a,B a->B' a)(r:Reps K H B v d):Reps K H B' v d:=r.same (λ_ _ e=>e) b
mutual
theorem Rep.aW:∀{v:V} (d:av),imm d=Z7->Rep K H B v d->Rep K H B' v d
 |v,.none,_,r=>r
 |v,.bool b,_,r=>r
 |v,.int i,_,r=>r
 |v,.str x,_,r=>r
 |v,.tuple ds,i,r=>by obtain⟨a,vs,e,h,q⟩:=r;exact⟨a,vs,e,h,Reps.aW ds (i) q⟩
 |v,.list ds,i,r=>by cases(show Z6=Z7 from i)
 |v,.dict es,i,r=>by cases(show Z6=Z7 from i)
theorem Reps.aW:∀{vs:List V} (ds:List av),imms ds=Z7->Reps K H B vs ds->Reps K H B' vs ds
 |vs,[],_,r=>r
 |vs,d::ds,i,r=>by have i:=au.mp (show(imm d&&imms ds)=Z7 from i);obtain⟨v,t,e,h,q⟩:=r;exact⟨v,t,e,Rep.aW d i.1 h,Reps.aW ds i.2 q⟩
end
mutual
theorem Rep.hU (hH:∀a o,H a=Z9 o->Fix o->H' a=Z9 o):∀{v:V} (d:av),imm d=Z7->Rep K H B v d->Rep K H' B' v d
 |v,.none,_,r=>r
 |v,.bool b,_,r=>r
 |v,.int i,_,r=>r
 |v,.str x,_,r=>r
 |v,.tuple ds,i,r=>by obtain⟨a,vs,e,h,q⟩:=r;exact⟨a,vs,e,h.keep (B:=λ_=>False) (λa o e f=>hH a o e (f.resolve_left id)),Reps.hU hH ds (i) q⟩
 |v,.list ds,i,r=>by cases(show Z6=Z7 from i)
 |v,.dict es,i,r=>by cases(show Z6=Z7 from i)
theorem Reps.hU (hH:∀a o,H a=Z9 o->Fix o->H' a=Z9 o):∀{vs:List V} (ds:List av),imms ds=Z7->Reps K H B vs ds->Reps K H' B' vs ds
 |vs,[],_,r=>r
 |vs,d::ds,i,r=>by have i:=au.mp (show(imm d&&imms ds)=Z7 from i);obtain⟨v,t,e,h,q⟩:=r;exact⟨v,t,e,Rep.hU hH d i.1 h,Reps.hU hH ds i.2 q⟩
end
theorem Reps.length:∀{vs:List V} {ds:List D},Reps K H B vs ds->vs.length=ds.length
 |vs,[],r=>by have e:vs=[]:=r;subst e;rfl
 |vs,d::ds,r=>by obtain⟨v,t,rfl,h,q⟩:=r;rw[bh,bh,q.length]
theorem Reps.get:∀{a:List V} {b:List D} {i:Nat} {d:D},Reps K H B a b->b[i]?=Z9 d->∃v,a[i]?=Z9 v/\Rep K H B v d
 |a,[],i,d,r,e=>by simp at e
 |a,d0::b,0,d,r,e=>by
  obtain⟨v,t,rfl,h,q⟩:=r;have:d0=d:=by simpa using e
  subst this;exact⟨v,rfl,h⟩
 |a,d0::b,i+1,d,r,e=>by obtain⟨v,t,rfl,h,q⟩:=r;obtain⟨u,c,f⟩:=q.get (by simpa using e);exact⟨u,by simpa using c,f⟩
theorem Reps.pX:∀{a:List V} {b:List D} {i:Nat} {v:V},Reps K H B a b->a[i]?=Z9 v->∃d,b[i]?=Z9 d/\Rep K H B v d
 |a,[],i,v,r,e=>by have c:a=[]:=r;subst c;simp at e
 |a,d0::b,0,v,r,e=>by
  obtain⟨u,t,rfl,h,q⟩:=r;have:u=v:=by simpa using e
  subst this;exact⟨d0,rfl,h⟩
 |a,d0::b,i+1,v,r,e=>by obtain⟨u,t,rfl,h,q⟩:=r;obtain⟨d,f,g⟩:=q.pX (by simpa using e);exact⟨d,by simpa using f,g⟩
theorem Reps.cons {v:V}{d:D}{vs:List V}{ds:List D}(h:Rep K H B v d)(r:Reps K H B vs ds):Reps K H B (v::vs) (d::ds):=⟨v,vs,rfl,h,r⟩
theorem Reps.append:∀{a b:List V} {c es:List D},Reps K H B a c->Reps K H B b es->Reps K H B (a++b) (c++es)
 |a,b,[],es,r,q=>by have e:a=[]:=r;subst e;exact q
 |a,b,d::c,es,r,q=>by obtain⟨v,t,rfl,h,p⟩:=r;exact⟨v,t++b,rfl,h,p.append q⟩
theorem Reps.take:∀{a:List V} {b:List D} n,Reps K H B a b->Reps K H B (a.take n) (b.take n)
 |a,b,0,r=>by rw[List.take_zero];exact rfl
 |a,[],n+1,r=>by have e:a=[]:=r;subst e;exact rfl
 |a,d::b,n+1,r=>by obtain⟨v,t,rfl,h,p⟩:=r;exact⟨v,t.take n,rfl,h,p.take n⟩
theorem Reps.drop:∀{a:List V} {b:List D} n,Reps K H B a b->Reps K H B (a.drop n) (b.drop n)
 |a,b,0,r=>r
 |a,[],n+1,r=>by have e:a=[]:=r;subst e;exact rfl
 |a,d::b,n+1,r=>by obtain⟨v,t,rfl,h,p⟩:=r;exact p.drop n
mutual
theorem Rep.there:∀{v:V} (d:av),Rep K H B v d->Rep K H (λa=>B a/\¬nw H a) v d
 |v,.none,r=>r
 |v,.bool b,r=>r
 |v,.int i,r=>r
 |v,.str x,r=>r
 |v,.tuple ds,r=>by obtain⟨a,vs,e,h,q⟩:=r;exact⟨a,vs,e,h,Reps.there ds q⟩
 |v,.list ds,r=>by
  obtain⟨a,vs,e,h,q⟩:=r;refine⟨a,vs,e,?_,Reps.there ds q⟩;rcases h with⟨h,b⟩|h
  .refine .inl ⟨h,b,λz=>?_⟩;have z':H a=none:=z;rw[h]at z';cases z'
  .exact .inr ⟨h.1,h.2,λz=>z⟩
 |v,.dict es,r=>by obtain⟨a,kvs,e,h,b,q⟩:=r;exact⟨a,kvs,e,h,⟨b,λz=>by have z':H a=none:=z;rw[h]at z';cases z'⟩,aZ.there es q⟩
theorem Reps.there:∀{vs:List V} (ds:List av),Reps K H B vs ds->Reps K H (λa=>B a/\¬nw H a) vs ds
 |vs,[],r=>r
 |vs,d::ds,r=>by obtain⟨v,t,e,h,q⟩:=r;exact⟨v,t,e,Rep.there d h,Reps.there ds q⟩
theorem aZ.there:∀{kvs:List (Key×V)} (es:List (av×av)),aZ K H B kvs es->aZ K H (λa=>B a/\¬nw H a) kvs es
 |kvs,[],r=>r
 |kvs,(kd,d)::es,r=>by obtain⟨k,v,t,e,e2,ok,h,q⟩:=r;exact⟨k,v,t,e,e2,ok,Rep.there d h,aZ.there es q⟩
end
end
structure Fm where
 H0:Hp
 V:Addr->Prop
 O:Addr->Option Nat
 z:Prop
def Bin (F:Fm):Ad->Prop
 |some a=>F.O a=Z8/\F.H0 a=Z8/\F.V a
 |none=>False
def bV (F:Fm):Ad->Prop
 |some a=>F.V a
 |none=>F.z
def eJ (F:Fm):Ad->Prop
 |some a=>F.H0 a≠Z8/\F.V a
 |none=>F.z
def Slot (K:Z5)(F:Fm)(H:Hp)(i:Nat):G->V->D->Prop
 |.fr,v,d=>∃p,v=.ref p/\F.O p=Z9 i/\((∃vs ds,d=.list ds/\H p=Z9 (.lst vs)/\Reps K H (Bin F) vs ds)\/(∃kvs es,d=.dict es/\H p=Z9 (.dK kvs)/\aZ K H (Bin F) kvs es))
 |.od,v,d=>Rep K H (eJ F) v d
 |.al,v,d=>Rep K H (bV F) v d
 |.nu,v,d=>Rep K H (Bin F) v d
structure StOk (K:Z5)(F:Fm)(H:Hp)(σ:L2.St)(ρ:Rho):Prop where
 ext:Same F.H0 H
 aS:∀a,H a=Z8->F.V a
 own:∀a i,F.O a=Z9 i->F.H0 a=Z8/\F.V a/\((∃xs,H a=Z9 (.lst xs))\/∃kvs,H a=Z9 (.dK kvs))
 len:σ.length=ρ.length
 sl:∀i g d,ρ[i]?=Z9 (Z9 (g,d))->∃v,σ[i]?=Z9 (Z9 v)/\Slot K F H i g v d
def BG (F:Fm)(H:Hp):G->Ad->Prop
 |.fr=>nw H
 |.od=>eJ F
 |.al=>bV F
 |.nu=>λa=>nw H a\/Bin F a
section
variable {K:Z5}{F:Fm}{H H':Hp}{σ:L2.St}{ρ:Rho}
theorem Slot.same (s:Same H H')(h:Slot K F H i g v d):Slot K F H' i g v d:=by
 cases g with
 |fr=>
  obtain⟨p,e,o,h⟩:=h;refine⟨p,e,o,?_⟩;rcases h with⟨a,c,f,j,r⟩|⟨a,c,f,j,r⟩
  .exact .inl ⟨a,c,f,s _ _ j,r.same s λ_ b=>b⟩
  .exact .inr ⟨a,c,f,s _ _ j,r.same s λ_ b=>b⟩
 |od=>exact Rep.same s (λ_ b=>b) h
 |al=>exact Rep.same s (λ_ b=>b) h
 |nu=>exact Rep.same s (λ_ b=>b) h
theorem _root_.L2.Same.none (s:Same H H')(h:H' a=Z8):H a=none:=by
 cases e:H a with
 |none=>rfl
 |some o=>rw[s a o e]at h;cases h
theorem StOk.same (s:Same H H')(h:StOk K F H σ ρ):StOk K F H' σ ρ where
 ext:=λa o e=>s a o (h.ext a o e)
 aS:=λa e=>h.aS a (s.none e)
 own:=λa i e=>by
  obtain⟨c,j,b⟩:=h.own a i e;refine⟨c,j,?_⟩;rcases b with⟨f,b⟩|⟨f,b⟩
  .exact .inl ⟨f,s _ _ b⟩
  .exact .inr ⟨f,s _ _ b⟩
 len:=h.len
 sl:=λi g d e=>by obtain⟨v,c,b⟩:=h.sl i g d e;exact⟨v,c,b.same s⟩
theorem nw.back (s:Same H H')(h:nw H' a):nw H a:=by
 cases a with
 |none=>exact h
 |some a=>exact s.none h
theorem nw.aS (b:∀a,H a=Z8->F.V a)(h:nw H a):bV F a:=by
 cases a with
 |none=>exact h.elim
 |some a=>exact b a h
theorem eJ.aS (h:eJ F a):bV F a:=by
 cases a with
 |none=>exact h
 |some a=>exact h.2
theorem Bin.aS (h:Bin F a):bV F a:=by
 cases a with
 |none=>exact h.elim
 |some a=>exact h.2.2
theorem BG.back (s:Same H H')(h:BG F H' g a):BG F H g a:=by
 cases g with
 |fr=>exact nw.back s h
 |od=>exact h
 |al=>exact h
 |nu=>exact h.elim (λh=>.inl (nw.back s h)) .inr
theorem BG.aS (b:∀a,H a=Z8->F.V a)(h:BG F H g a):bV F a:=by
 cases g with
 |fr=>exact nw.aS b h
 |od=>exact eJ.aS h
 |al=>exact h
 |nu=>exact h.elim (nw.aS b) Bin.aS
theorem Slot.rep (so:∀a i,F.O a=Z9 i->F.V a)(h:Slot K F H i g v d):Rep K H (bV F) v d:=by
 cases g with
 |fr=>
  obtain⟨p,e,o,h⟩:=h;rcases h with⟨c,j,rfl,f,r⟩|⟨c,j,rfl,f,r⟩
  .exact⟨p,c,e,.inl ⟨f,so _ _ o⟩,r.weak λ_ b=>b.aS⟩
  .exact⟨p,c,e,f,so _ _ o,aZ.same (λ_ _ e=>e) (λ_ b=>b.aS) r⟩
 |od=>exact Rep.weak (λ_ b=>b.aS) h
 |al=>exact h
 |nu=>exact Rep.weak (λ_ b=>Bin.aS b) h
theorem StOk.jK (h:StOk K F H σ ρ):∀a i,F.O a=Z9 i->F.V a:=λa i e=>(h.own a i e).2.1
theorem StOk.rd (h:StOk K F H σ ρ){i:Nat}(e:xU ρ[i]?=.ok x):∃v,σ[i]?=Z9 (Z9 v)/\Rep K H (BG F H x.1) v x.2:=by
 cases c:ρ[i]? with
 |none=>rw[c]at e;cases e
 |some o=>
  cases o with
  |none=>rw[c]at e;cases e
  |some gd=>
   obtain⟨g,d⟩:=gd;rw[c]at e;obtain⟨v,j,a⟩:=h.sl i g d c;have k:=(Res.ok.inj e).symm;subst k;refine⟨v,j,?_⟩;by_cases f:imm d=Z7
   .show Rep K H (BG F H (if imm d=Z7 then _ else _)) v d;exact Rep.aW d f (a.rep h.jK)
   .show Rep K H (BG F H (if imm d=Z7 then _ else _)) v d;rw[tx f];cases g with
    |fr=>exact a.rep h.jK
    |od=>exact a
    |al=>exact a
    |nu=>exact Rep.weak (λ_ b=>.inr b) a
end
structure Gm where
 N:List Str
 sc:Scope
 blk:Bool:=Z6
 free:List Str
 fns:List (Str×Nat)
 cst:List Str
 cm:Bool:=Z7
 xc:Option (Str×Str):=Z8
 sub:List (Str×Str×Bool):=[]
 rs:List Str:=[]
 hV:List (Str×Str):=[]
section
variable (Γ:Gm)
def nK (i:Nat)(x:Str):Bool:=(Γ.N[i]?==Z9 x)&&(Γ.sc.names.lookup x==Z9 .local||Γ.sc.names.lookup x==Z9 .cell||Γ.sc.names.lookup x==Z9 .free)&& !(x==("__debug__":Str))&& !(x==("__classdict__":Str))
def nM (x:Str):Bool:=(Γ.sc.names.lookup x==Z9 .globalImplicit)&& !(x==("__debug__":Str))
def dW (x:Str):Bool:=nM Γ x&&Γ.free.contains x&& !(x==("__name__":Str))
def lJ (i:Nat)(x:Str):Bool:=(Γ.N[i]?==Z9 x)&&(Γ.sc.names.lookup x==Z9 .local||(!Γ.blk&&Γ.sc.names.lookup x==Z9 .cell))
end
def tgIx:Tg->List Nat
 |.nm i=>[i]
 |.tp is=>is
def z7 (scope sc:Scope):Scope:={scope with names:=scope.names.map λ(n,k)=>if(k==.free&&sc.kind==.function&&sc.names.lookup n==Z9 .cell)then(n,.cell)else(n,k)}
def plainT:Expr->Bool
 |.UnaryOp .Not _ _=>Z6
 |.BoolOp _ _ _=>Z6
 |.IfExp _ _ _ _=>Z6
 |.Compare _ _ _ _=>Z6
 |_=>Z7
def Ib:Expr->Bool
 |.Compare _ _ _ _=>Z7
 |_=>Z6
def z2v:Expr->Bool
 |.Slice _ _ _ _=>Z6
 |_=>Z7
def z0w:Expr->Bool
 |.Call (.Name _ _) [] [] _=>Z6
 |_=>Z7
def sH:Expr->Bool
 |.Set _ _ _=>Z6
 |_=>Z7
def isTup:Expr->Bool
 |.Tuple _ _ _=>Z7
 |_=>Z6
def z8:Expr->Option Str
 |.Name x _=>Z9 x
 |_=>Z8
def fJ:Expr->Option Const
 |.Constant v _ _=>Z9 v
 |_=>Z8
def xX:Expr->Option (Expr×qv×Expr)
 |.BinOp l o r _=>Z9 (l,o,r)
 |_=>Z8
def xY:Expr->Option (UnaryOp×Expr)
 |.UnaryOp o x _=>Z9 (o,x)
 |_=>Z8
def nN:Expr->Option (Expr×List CmpOp×List Expr)
 |.Compare l o r _=>Z9 (l,o,r)
 |_=>Z8
def sI:Expr->Option (BoolOp×List Expr×Pos)
 |.BoolOp o xs p=>Z9 (o,xs,p)
 |_=>Z8
def uB:Expr->Option (Expr×Expr×Expr)
 |.IfExp t x y _=>Z9 (t,x,y)
 |_=>Z8
def pY:Expr->Option (List Expr)
 |.Tuple es _ _=>Z9 es
 |_=>Z8
def uC:Expr->Option (List Expr)
 |.List es _=>Z9 es
 |_=>Z8
def z9:Expr->Option (List (Option Expr)×List Expr)
 |.Dict k v _=>Z9 (k,v)
 |_=>Z8
def jL:Expr->Option (Expr×Expr)
 |.Subscript x i _=>Z9 (x,i)
 |_=>Z8
def xZ:Expr->Option (Option Expr×Option Expr×Option Expr)
 |.Slice l h s _=>Z9 (l,h,s)
 |_=>Z8
def Ab:Expr->Option (Expr×List Expr×List nr×Pos)
 |.Call f es k p=>Z9 (f,es,k,p)
 |_=>Z8
def uD:Expr->Option (Expr×Str×Pos)
 |.Attribute x n p=>Z9 (x,n,p)
 |_=>Z8
def CM:Expr->Option (Expr×List Comprehension×Scope)
 |.ListComp el gs s _=>Z9 (el,gs,s)
 |_=>Z8
def bI {α:Type}:List α->Option α
 | [x]=>Z9 x
 |_=>Z8
def pZ {α:Type}:List α->Option (α×α)
 | [x,y]=>Z9 (x,y)
 |_=>Z8
def jM (e:Expr):Option (Str×List Expr):=(Ab e).bind λv=>if v.2.2.1.isEmpty then(z8 v.1).map λx=>(x,v.2.1)else Z8
def sJ (e:Expr):Option (Expr×Str×List Expr×Bool):=(Ab e).bind λv=>if v.2.2.1.isEmpty then(uD v.1).map λu=>(u.1,u.2.1,v.2.1,u.2.2.endLine==v.2.2.2.line)else Z8
def sM (f g:Expr->Bool)(o:BoolOp)(p:Pos):List Expr->Bool
 |x::y::r=>f x&&(if r.isEmpty then g y else g (.BoolOp o (y::r) p))
 |_=>Z6
def x4 (n:Bool)(f:Expr->Bool):List Expr->Bool
 | []=>n
 |t::r=>r.isEmpty&&f t
def x5:C->Bool
 |.nil=>Z7
 |_=>Z6
def lK (f:Str->Bool)(e:Expr):Bool:=(z8 e).any f
def CN (Γ:Gm):List Nat->List Expr->Bool
 | [],es=>es.isEmpty
 |i::is,es=>match es with|e::es=>lK (lJ Γ i) e&&CN Γ is es| []=>Z6
def qz (Γ:Gm):Tg->Expr->Bool
 |.nm i,e=>lK (lJ Γ i) e
 |.tp is,e=>Γ.cm&&(pY e).any (CN Γ is)
def CP:qv->Bool
 |.Add|.Sub|.Mult|.FloorDiv|.Mod|.Pow=>Z7
 |_=>Z6
def z4r:CmpOp->Bool
 |.Is|.IsNot|.GtE=>Z6
 |_=>Z7
def CQ (T:String):Bool:=tysB.contains T
def tyB (Γ:Gm)(T:String)(t:Expr):Bool:=lK (λx=>(x==Str.ofString T)&&dW Γ x&&CQ T) t
def x8:List String:=["tuple","sorted","dict"]
def OZ:Tg->Bool
 |.nm _=>Z7
 |.tp _=>Z6
def Ac:C->Expr->Bool
 |.enum _,e=>isTup e
 |_,_=>Z7
mutual
def chkE (Γ:Gm):C->Expr->Bool
 |.var i,e=>lK (nK Γ i) e
 |.aO,e=>decide (fJ e=Z9 .none)
 |.bl b,e=>decide (fJ e=Z9 (.bool b))
 |.int i,e=>decide (fJ e=Z9 (.int i))
 |.str x,e=>decide (fJ e=Z9 (.str x))&&ZW x
 |.glob _ _,_=>Z6
 |.bin op a b,e=>(xX e).any λv=>decide (op=v.2.1)&&CP op&&chkE Γ a v.1&&chkE Γ b v.2.2
 |.neg a,e=>(xY e).any λv=>decide (v.1=.USub)&&chkE Γ a v.2
 |.cmp op a b,e=>(nN e).any λv=>decide (v.2.1=[op])&&(bI v.2.2).any λr=>z4r op&& !(d6 op r)&&chkE Γ a v.1&&chkE Γ b r
 |.iY ng a,e=>(nN e).any λv=>decide (v.2.1=[if ng then .IsNot else .Is])&&(bI v.2.2).any λr=>decide (fJ r=Z9 .none)&&chkE Γ a v.1
 |.and a b,e=>(sI e).any λv=>decide (v.1=.And)&&sM (λx=>chkE Γ a x) (λx=>chkE Γ b x) .And v.2.2 v.2.1
 |.or a b,e=>(sI e).any λv=>decide (v.1=.Or)&&sM (λx=>chkE Γ a x) (λx=>chkE Γ b x) .Or v.2.2 v.2.1
 |.not a,e=>(xY e).any λv=>decide (v.1=.Not)&&chkE Γ a v.2
 |.sD c a b,e=>(uB e).any λv=>eK Γ c v.1&&chkE Γ a v.2.1&&chkE Γ b v.2.2
 |.tup xs,e=>(pY e).any λes=>decide (es.length<=1000)&&eL Γ xs es
 |.lst xs,e=>(uC e).any λes=>decide (es.length<=1000)&&eL Γ xs es
 |.hG,e=>(z9 e).any λv=>v.1.isEmpty&&v.2.isEmpty
 |.ix a b,e=>(jL e).any λv=>z2v v.2&&chkE Γ a v.1&&chkE Γ b v.2
 |.sl a lo hi,e=>(jL e).any λv=>(xZ v.2).any λs=>s.2.2.isNone&&chkE Γ a v.1&&qA Γ lo s.1&&qA Γ hi s.2.1
 |.call k f args,e=>(jM e).any λv=>(Γ.cm&&(v.1==f))&&nM Γ v.1&&(Γ.fns[k]?==Z9 (f,v.2.length))&&eL Γ args v.2&& !v.2.isEmpty
 |.bi f args,e=>(jM e).any λv=>(v.1==Str.ofString f)&&dW Γ v.1&&((["len","max","min","int"].contains f)&&(Γ.cm||f=="int"))&&eL Γ args v.2&& !v.2.isEmpty
 |.kJ f a,e=>(jM e).any λv=>(v.1==Str.ofString f)&&dW Γ v.1&&(x8.contains f&&Γ.cm)&&(bI v.2).any λy=>!isStar y&&uE Γ a y
 |.fY a ts,e=>(jM e).any λv=>(v.1==("isinstance":Str))&&dW Γ v.1&&(pZ v.2).any λy=>!isStar y.1&&chkE Γ a y.1&&(bI ts).any λT=>tyB Γ T y.2
 |.mt m o args,e=>(sJ e).any λv=>((v.2.1==Str.ofString m)&& ["get","join"].contains m&&z0w v.1&&v.2.2.2&&decide (v.2.2.1.length<20))&&chkE Γ o v.1&&eL Γ args v.2.2.1&& !v.2.2.1.isEmpty
 |.comp nt js N' tg it cond elt,e=>(CM e).any λv=>(bI v.2.1).any λg=>let CT:Gm:={Γ with N:=N',sc:=z7 v.2.2 Γ.sc,blk:=Z7,xc:=Z8}
  ((Γ.cm&&(g.is_async==0))&&(tgIx tg).all (λi=>decide (i<nt))&&pP Γ.N Γ.sc v.2.2 N' nt js&&sH g.iter&&decide N'.Nodup)&&(qz CT tg g.target&&Ac it g.target)&&lM Γ it g.iter&&x4 (x5 cond) (λt=>eK CT cond t) g.ifs&&chkE CT elt v.1
 |.uw b x,e=>(jM e).any λv=>(v.1==("isinstance":Str))&&dW Γ v.1&&(pZ v.2).any λy=>Γ.xc.any λz=>lK (λn=>(n==z.1)&&(Γ.sc.names.lookup n==Z9 .local)&& !(n==("__debug__":Str))&& !(n==("__classdict__":Str))) y.1&&lK (λC=>(C==x)&&nM Γ C&&Γ.sub.contains (z.2,x,b)) y.2
 |.eI _,_=>Z6
 |.enum _,_=>Z6
 |.tv _,_=>Z6
 |.nil,_=>Z6
 |.cons _ _,_=>Z6
def eK (Γ:Gm):C->Expr->Bool
 |.and a b,e=>(sI e).any λv=>decide (v.1=.And)&&sM (λx=>eK Γ a x) (λx=>eK Γ b x) .And v.2.2 v.2.1
 |.or a b,e=>(sI e).any λv=>decide (v.1=.Or)&&sM (λx=>eK Γ a x) (λx=>eK Γ b x) .Or v.2.2 v.2.1
 |.not a,e=>(xY e).any λv=>decide (v.1=.Not)&&eK Γ a v.2
 |.tv a,e=>(plainT e||Ib e)&&chkE Γ a e
 |_,_=>Z6
def eL (Γ:Gm):C->List Expr->Bool
 |.nil,es=>es.isEmpty
 |.cons a r,es=>match es with|e::es=>!isStar e&&chkE Γ a e&&eL Γ r es|_=>Z6
 |_,_=>Z6
def qA (Γ:Gm):C->Option Expr->Bool
 |.nil,e=>e.isNone
 |.tv a,e=>e.any λe=>chkE Γ a e
 |_,_=>Z6
def lM (Γ:Gm):C->Expr->Bool
 |.eI args,e=>(jM e).any λv=>(v.1==("range":Str))&&dW Γ v.1&&eL Γ args v.2&&(!v.2.isEmpty&&decide (v.2.length<=3))
 |.tv a,e=>sH e&&chkE Γ a e
 |.enum a,e=>(jM e).any λv=>(v.1==("enumerate":Str))&&dW Γ v.1&&(bI v.2).any λy=>!isStar y&&chkE Γ a y
 |_,_=>Z6
def uE (Γ:Gm):C->Expr->Bool
 |.tv a,e=>chkE Γ a e
 |_,_=>Z6
end
def lN:C->Bool
 |_=>Z6
def x9 (Γ:Gm)(it:C)(tg ie:Expr):Bool:=Ac it tg&&lM Γ it ie
def vR:Stmt->Option (List Expr×Expr)
 |.Assign t v _=>Z9 (t,v)
 |_=>Z8
def vS:Stmt->Option Expr
 |.Expr v _=>Z9 v
 |_=>Z8
def CU:Stmt->Option (Option Expr)
 |.Return v _=>Z9 v
 |_=>Z8
def CV:Stmt->Option (Expr×List Stmt×List Stmt)
 |.If t A B _=>Z9 (t,A,B)
 |_=>Z8
def ya:Stmt->Option (Expr×Expr×List Stmt×List Stmt)
 |.For t i B o _=>Z9 (t,i,B,o)
 |_=>Z8
def CW:Stmt->Option (Expr×List Stmt×List Stmt)
 |.While t B o _=>Z9 (t,B,o)
 |_=>Z8
def yb:Stmt->Option (Str×List Expr)
 |.Raise (Z9 c) Z8 _=>jM c
 |_=>Z8
def CY (e:Expr):Bool:=(fJ e).any λk=>match k with|.str x=>ZW x|_=>Z6
def CZ:ExceptHandler->Option (Str×Str×List Stmt)
 |.ExceptHandler (Z9 t) (Z9 n) b _=>(z8 t).map λx=>(x,n,b)
 |_=>Z8
mutual
def uF (Γ:Gm):S->Stmt->Bool
 |.bad,_=>Z7
 |.asg t e,s=>(vR s).any λu=>(bI u.1).any λx=>qz Γ t x&& !lN e&&(OZ t||(!kI u.2&& !isTup u.2))&&chkE Γ e u.2
 |.mut m i args,s=>(vS s).any λc=>(sJ c).any λv=>(lK (nK Γ i) v.1&&(v.2.1==Str.ofString m)&& ["append"].contains m&&v.2.2.2&&decide (v.2.2.1.length<20))&& !v.2.2.1.isEmpty&&eL Γ args v.2.2.1
 |.drop e,s=>(vS s).any λv=>!kI v&&chkE Γ e v
 |.ret e,s=>(CU s).any λo=>o.any λv=>chkE Γ e v
 |.bN c a b,s=>(CV s).any λv=>eK Γ c v.1&&chkL Γ a v.2.1&&chkL Γ b v.2.2
 |.bH t it b,s=>Γ.cm&&(ya s).any λv=>qz Γ t v.1&&x9 Γ it v.1 v.2.1&&chkL Γ b v.2.2.1&&v.2.2.2.isEmpty
 |.wh _ c b,s=>(CW s).any λv=>eK Γ c v.1&&chkL Γ b v.2.1&&v.2.2.isEmpty
 |.jI c,s=>(yb s).any λv=>(v.1==c)&&nM Γ c&&Γ.rs.contains c&&Γ.cm&&(bI v.2).any CY
 |.nil,_=>Z6
 |.seq _ _,_=>Z6
def chkL (Γ:Gm):S->List Stmt->Bool
 |.nil,l=>l.isEmpty
 |.seq a b,l=>match l with|s::r=>uF Γ a s&&chkL Γ b r|_=>Z6
 |_,_=>Z6
end
def tD (K:Z5)(f:Rho->Res GD):TE:=λσ H Q=>∃ρ F x,StOk K F H σ ρ/\f ρ=.ok x/\∀v H',Same H H'->Rep K H' (BG F H x.1) v x.2->Q v H'
def eD (K:Z5)(f:Rho->Res Bool):TT:=λσ H Q=>∃ρ F b,StOk K F H σ ρ/\f ρ=.ok b/\∀H',Same H H'->Q b H'
def tDO (K:Z5)(f:Rho->Res (Option Int)):TO:=λσ H Q=>∃ρ F b,StOk K F H σ ρ/\f ρ=.ok b/\∀H',Same H H'->Q b H'
def eV (K:Z5)(F:Fm)(H H':Hp):List V->List GD->Prop
 |vs,[]=>vs=[]
 |vs,x::xs=>∃v r,vs=v::r/\Rep K H' (BG F H x.1) v x.2/\eV K F H H' r xs
def tDA (K:Z5)(f:Rho->Res (List GD)):TA:=λσ H Q=>∃ρ F xs,StOk K F H σ ρ/\f ρ=.ok xs/\∀vs H',Same H H'->eV K F H H' vs xs->Q vs H'
theorem _root_.L2.PE.imp (h:PE X e t)(i:∀a H Q,c a H Q->t a H Q):PE X e c:=λb s a H Q I q=>h b s a H Q I (i a H Q q)
theorem _root_.L2.PT.imp (h:PT X e t)(i:∀a H Q,c a H Q->t a H Q):PT X e c:=λb s a H Q I q=>h b s a H Q I (i a H Q q)
theorem _root_.L2.PW.imp (h:PW X e t)(i:∀a H Q,c a H Q->t a H Q):PW X e c:=λwh b s a H Q I q=>h wh b s a H Q I (i a H Q q)
theorem _root_.L2.PA.imp (h:PA X e t)(i:∀a H Q,c a H Q->t a H Q):PA X e c:=λpos b s a H Q I q=>h pos b s a H Q I (i a H Q q)
theorem _root_.L2.PO.imp (h:PO X e t)(i:∀a H Q,c a H Q->t a H Q):PO X e c:=λb s a H Q I q=>h b s a H Q I (i a H Q q)
theorem _root_.L2.PS.imp (h:PS X e t)(i:∀D a H,c D a H->t D a H):PS X e c:=λb s a H D I q=>h b s a H D I (i D a H q)
theorem _root_.L2.PSs.imp (h:PSs X e t)(i:∀D a H,c D a H->t D a H):PSs X e c:=λb s a H D I q=>h b s a H D I (i D a H q)
section
variable {K:Z5}{F:Fm}{H H1 H':Hp}
theorem eV.back:∀{a:List V} {c:List GD},Same H H1->eV K F H1 H' a c->eV K F H H' a c
 |a,[],_,r=>r
 |a,x::c,s,r=>by obtain⟨v,t,e,h,q⟩:=r;exact⟨v,t,e,h.weak λ_ b=>b.back s,q.back s⟩
theorem eV.nO:∀{b:List V} {c:List GD},(∀x∈c,∀a,BG F H x.1 a->B a)->eV K F H H' b c->Reps K H' B b (c.map (·.2))
 |b,[],_,r=>r
 |b,x::c,d,r=>by obtain⟨v,t,e,h,q⟩:=r;exact⟨v,t,e,h.weak (d x bg),q.nO λy f=>d y (bc _ f)⟩
theorem eV.kM (b:∀a,H a=Z8->F.V a)(r:eV K F H H' c d):Reps K H' (bV F) c (d.map (·.2)):=r.nO λ_ _ _ h=>h.aS b
theorem yc (f:∀a,H a=Z8->F.V a)(c:x∈d)(h:BG F H x.1 a):BG F H (cN d) a:=by
 unfold cN;by_cases e:(d.all λx=>x.1==.fr)=Z7
 .rw[tw e];have:=(cc.mp e) x c;have b:x.1=.fr:=by simpa using this
  rw[b]at h;exact h
 .rw[tx e];split
  .rename_i g;have:=(cc.mp g) x c;rcases fi.mp this with b|b
   .rw[eq_of_beq b]at h;exact .inl h
   .rw[eq_of_beq b]at h;exact h
  .exact h.aS f
theorem C1 (b:∀a,H a=Z8->F.V a)(s:Same H H1)(h:nw H1 a):BG F H (cN c) a:=by
 unfold cN;by_cases e:(c.all λx=>x.1==.fr)=Z7
 .rw[tw e];exact nw.back s h
 .rw[tx e];split
  .exact .inl (nw.back s h)
  .exact(nw.back s h).aS b
theorem sN (r:Rep K H' B v d)(h:∀a,B a->BG F H g a):Rep K H' (BG F H (gJ d g)) v d:=by
 unfold gJ;by_cases e:imm d=Z7
 .rw[tw e];exact Rep.aW d e r
 .rw[tx e];exact r.weak h
end
def jN (K:Z5)(m:D->D->Res D):R2:=λx y H Q=>∃Bx By dx dy d,Rep K H Bx x dx/\Rep K H By y dy/\m dx dy=.ok d/\∀w H',Same H H'->Rep K H' (λa=>nw H a\/Bx a\/By a) w d->Q w H'
def qB (X:Cx)(f:Value->Value->Sem Value)(m:D->D->Res D):Prop:=OpR X f (jN X.K m)
def C3 (K:Z5)(m:D->D->Res D):R2:=λx y H Q=>∃Bx By dx dy d,Rep K H Bx x dx/\Rep K H By y dy/\m dx dy=.ok d/\∀w H',Same H H'->Rep K H' (λa=>nw H a\/Bx a\/By a) w d->(∀ds,d=.list ds->imms ds=Z7->Rep K H' (nw H) w d)->Q w H'
def C4 (X:Cx)(f:Value->Value->Sem Value)(m:D->D->Res D):Prop:=OpR X f (C3 X.K m)
theorem _root_.L2.OpR.imp (h:OpR X f r)(i:∀x y H Q,b x y H Q->r x y H Q):OpR X f b:=λa s c H x y v u Q I d e q=>h a s c H x y v u Q I d e (i x y H Q q)
def z72 (K:Z5)(m:List D->Res D):List V->Hp->VK->Prop:=λxs H Q=>∃B ds d,Reps K H B xs ds/\m ds=.ok d/\∀w H',Same H H'->Rep K H' (λa=>nw H a\/B a) w d->Q w H'
theorem _root_.L2.CallR.imp (h:CallR X f r)(i:∀x H Q,b x H Q->r x H Q):CallR X f b:=λa s c H x v Q I d q=>h a s c H x v Q I d (i x H Q q)
theorem O0 (a:ZW x=Z7)(b:ZW y=Z7):ZW (x++y)=true:=by
 unfold ZW at *
 show(x.cps++y.cps).all _=Z7;rw[Array.all_append,a,b];rfl
theorem sO:ZW x=Z7↔∀c∈x.cps.toList,c<0x110000:=by unfold ZW;rw[<-Array.all_toList];rw[cc];exact⟨λh c hc=>by simpa using h c hc,λh c hc=>by simpa using h c hc⟩
theorem O1 (a:ZW x=Z7)(hc:c∈x.cps.toList):ZW ⟨#[c]⟩=true:=
 sO.mpr λd hd=>by
  have e:d=c:=by simpa using hd
  rw[e];exact sO.mp a c hc
theorem qC (h:n<=aT):n<=ba:=bj h (by rw[cb];unfold aT;decide)
theorem _root_.L2.dD.rel {K:Z5}(s:Same H b)(h:dD K H a c):dD K b a c:=h.keep (B:=λ_=>True) λa o e _=>s a o e
section
def O2 (K:Z5):R2:=λx y H Q=>∃l b xs zs,x=.ref l/\y=.ref b/\SqL K H l xs/\SqL K H b zs/\xs.length+zs.length<=ba/\∀p,H p=Z8->Q (.ref p) (upd H p (.lst (xs++zs)))
theorem O3:OpR X (jf .Add) (O2 X.K):=by
 rintro k s L H x y v u Q I z A ⟨l,b,M,N,rfl,rfl,B,C,m,q⟩
 cases z;cases A;obtain⟨c,o,D,_⟩:=I.list B;obtain⟨a,p,E,_⟩:=I.list C;obtain⟨⟨cls,G,r,sl⟩,n,t,hc,_,hd⟩:=D;obtain⟨⟨w,e,f,g⟩,n2,d,h,_,i⟩:=E;subst hc hd h i;have j:c.toArray.size+a.toArray.size<=ba:=by rw[c8,c8,<-o.length,<-p.length];exact m
 refine concat_meets ⟨_,t,rfl⟩ ⟨_,d,rfl⟩ noFill_list_add seq_list_add PySem.F.slot_list_add PySem.F.entry_list_add (PySem.F.args_list_add_2 _ _) (list_addW l b c.toArray a.toArray n n2 G e sl g j) ⟨t,d,?_⟩;have J:c.toArray++a.toArray=(c++a).toArray:=by simp
 rw[J];exact⟨.ref _,_,I.lnew (o.append p) (aw▸m),rfl,q _ I.fresh⟩
variable {K:Z5}{H:Hp}{B:Ad->Prop}{v:V}
theorem mL (r:Rep K H B v (.list c)):∃a b,v=.ref a/\SqL K H a b/\Reps K H B b c:=by
 obtain⟨a,b,e,h,q⟩:=r;refine⟨a,b,e,?_,q⟩;rcases h with⟨h,_⟩|⟨h|h,_⟩
 .exact .inl (.inl h)
 .exact .inl (.inr h)
 .exact .inr h
theorem sP (c:H p=Z8)(r:Reps K H B b d)(e:∀a,B a->B' a)(f:B' (Z9 p)):Rep K (upd H p (.lst b)) B' (.ref p) (.list d):=⟨p,b,rfl,.inl ⟨bF,f⟩,r.same (Same.upd c) e⟩
theorem Ic (c:H p=Z8)(r:Reps K H B b d)(e:∀a,B a->f a):Rep K (upd H p (.tup b)) f (.ref p) (.tuple d):=⟨p,b,rfl,.inl (.inl bF),r.same (Same.upd c) e⟩
theorem eW {b:Type}{a:b}(h:(Res.no:Res b)=.ok a):False:=by cases h
theorem O4:C4 X (jf .Add) (eC .Add):=by
 refine OpR.imp (ON.or O3) λx y H Q h=>?_;obtain⟨r,s,dx,dy,d,f,g,e,q⟩:=h;cases dx<;>try (exact(eW e).elim)
 all_goals cases dy<;>try (exact(eW e).elim)
 case int.int i j=>cases e;have k:x=.int i:=f;have l:y=.int j:=g;subst k l;exact .inl (OS (q _ H (Same.refl H) rfl λt z=>by cases z))
 case str.str i j=>
  have k:x=.str i:=f.1;have l:y=.str j:=g.1;subst k l;have e:(if i.length+j.length<=aT then Res.ok (ZV (i++j))else Res.no)=Res.ok d:=e;split at e
  .rename_i m;cases e;exact .inl (OT (qC m) (q _ H (Same.refl H) ⟨rfl,O0 f.2 g.2⟩ λt z=>by cases z))
  .cases e
 case list.list xs ys=>
  have e:(if xs.length+ys.length<=aT then Res.ok (PyData.list (xs++ys))else Res.no)=Res.ok d:=e;split at e
  .rename_i m;cases e;obtain⟨a,u,rfl,v,n⟩:=mL f;obtain⟨b,w,rfl,A,o⟩:=mL g;refine .inr ⟨a,b,u,w,rfl,rfl,v,A,qC (by rw[n.length,o.length];exact m),λp c=>q _ _ (Same.upd c) ?_ ?_⟩
   .exact sP c (Reps.append (n.weak (B':=λa=>nw H a\/r a\/s a) λ_ z=>.inr (.inl z)) (o.weak λ_ z=>.inr (.inr z))) (λ_ z=>z) (.inl c)
   .intro t z B;cases z;exact sP c (Reps.aW (B':=nw H) _ B (Reps.append (n.weak (B':=λa=>nw H a\/r a\/s a) λ_ z=>.inr (.inl z)) (o.weak λ_ z=>.inr (.inr z)))) (λ_ z=>z) c
  .cases e
theorem yd {gd:Int->Int->D}(h:OpR X f (rI b g))(a:∀i j H B,Rep X.K H B (g i j) (gd i j))(hm:∀dx dy d,m dx dy=.ok d->∃i j,dx=.int i/\dy=.int j/\b i j/\d=gd i j):C4 X f m:=by refine OpR.imp h λx y H Q h=>?_;obtain⟨n,o,dx,dy,d,k,l,e,q⟩:=h;obtain⟨i,j,rfl,rfl,c,rfl⟩:=hm dx dy d e;exact⟨i,j,k,l,c,q _ H (Same.refl H) (a i j _ _) λ_ _ _=>a i j _ _⟩
theorem O5 (h:OpR X f (mG g)):OpR X f (rI (λ_ _=>True) g):=OpR.imp h λx y H Q ⟨i,j,a,b,_,q⟩=>⟨i,j,a,b,q⟩
theorem O6:OpR X (jf .FloorDiv) (rI (λ_ j=>0<j/\j<2 ^ 200) λi j=>.int (i/j)):=opI λi j _ _ _ _ _ hc q=>by
 refine floordiv_int (by omega) (by rw[Int.fdiv_eq_ediv_of_nonneg i (by omega)];exact q) (.inl (PyProof.noPylong_of_log2 ?_));have a:j.natAbs<2 ^ 200:=by omega
 have b:=(Nat.log2_lt (by omega)).mpr a;omega
theorem O7 (a:qv)(h:CP a=Z7):C4 X (jf a) (eC a):=by
 cases a<;>try (cases h;done)
 case Add=>exact O4
 case Sub=>
  refine yd (O5 NM) (gd:=λi j=>.int (i-j)) (λ_ _ _ _=>rfl) λdx dy d e=>?_;cases dx<;>try (exact(eW e).elim)
  cases dy<;>try (exact(eW e).elim)
  cases e;simp_all
 case Mult=>
  refine yd NN (gd:=λi j=>.int (i*j)) (λ_ _ _ _=>rfl) λdx dy d e=>?_;cases dx<;>try (exact(eW e).elim)
  cases dy<;>try (exact(eW e).elim)
  rename_i i j;have e:(if(-(2 ^ 64)<i/\i<2 ^ 64)\/(-(2 ^ 64)<j/\j<2 ^ 64)then Res.ok (ZU (i*j))else Res.no)=Res.ok d:=e;split at e
  .rename_i hc;cases e;exact⟨_,_,rfl,rfl,hc,rfl⟩
  .cases e
 case FloorDiv=>
  refine yd O6 (gd:=λi j=>.int (i/j)) (λ_ _ _ _=>rfl) λdx dy d e=>?_;cases dx<;>try (exact(eW e).elim)
  cases dy<;>try (exact(eW e).elim)
  rename_i i j;have e:(if 0<j/\j<2 ^ 200 then Res.ok (ZU (i/j))else Res.no)=Res.ok d:=e;split at e
  .rename_i hc;cases e;simp_all
  .cases e
 case Mod=>
  refine yd NO (gd:=λi j=>.int (i%j)) (λ_ _ _ _=>rfl) λdx dy d e=>?_;cases dx<;>try (exact(eW e).elim)
  cases dy<;>try (exact(eW e).elim)
  rename_i i j;have e:(if 0<j then Res.ok (ZU (i%j))else Res.no)=Res.ok d:=e;split at e
  .rename_i hc;cases e;simp_all
  .cases e
 case Pow=>
  refine yd NP (gd:=λi j=>.int (i ^ j.toNat)) (λ_ _ _ _=>rfl) λdx dy d e=>?_;cases dx<;>try (exact(eW e).elim)
  cases dy<;>try (exact(eW e).elim)
  rename_i i j;have e:(if 0<=j/\j<=1000/\i.natAbs<2 ^ 64 then Res.ok (ZU (i ^ j.toNat))else Res.no)=Res.ok d:=e;split at e
  .rename_i hc;cases e;exact⟨_,_,rfl,rfl,⟨hc.1,by omega,hc.2.2⟩,rfl⟩
  .cases e
end
section
variable {X:Cx}{pins:List (Addr×Obj)}{σ:L2.St}{H:Hp}{s:bb}{B:Ad->Prop}
mutual
theorem Rep.reads (I:Inv X pins σ H s):∀{v:V} {u:Value} (d:av) (n:Nat),bE n d=Z7->Rep X.K H B v d->RelV v u->(∃as,Reads s.heap u d as)/\d.canLay0=Z7/\d.depth<=n
 |v,u,.none,n,_,r,q=>by have e:v=.aO:=r;subst e;cases q;exact⟨⟨[],.none⟩,by simp only[ZT],c9 _⟩
 |v,u,.bool b,n,_,r,q=>by have e:v=.bl b:=r;subst e;cases q;exact⟨⟨[],.bool b⟩,by simp only[ZT],c9 _⟩
 |v,u,.int b,n,_,r,q=>by have e:v=.int b:=r;subst e;obtain⟨t,rfl⟩:=q;exact⟨⟨[],.int b t⟩,by simp only[ZT],c9 _⟩
 |v,u,.str b,n,_,r,q=>by obtain⟨e,ok⟩:v=.str b/\_:=r;subst e;obtain⟨t,rfl⟩:=q;exact⟨⟨[],.str b t⟩,by simp only[ZT];exact ok,c9 _⟩
 |v,u,.tuple ds,0,h,r,q=>by cases h
 |v,u,.list ds,0,h,r,q=>by cases h
 |v,u,.tuple ds,n+1,h,r,q=>by obtain⟨a,vs,e,h1,r1⟩:=r;subst e;cases q;obtain⟨fC,rv,⟨o,ho,hc,k,hd⟩,_⟩:=I.tuple h1;obtain⟨⟨as,ra⟩,c,dp⟩:=Reps.reads I ds n (h) r1 rv;refine⟨⟨as,.tuple ho hc hd (by simpa using ra)⟩,by simp only[ZT];exact c,?_⟩;simp only[PyData.depth];omega
 |v,u,.list ds,n+1,h,r,q=>by obtain⟨a,vs,e,h1,r1⟩:=mL r;subst e;cases q;obtain⟨fC,rv,⟨o,k,ho,hc,_,hd⟩,_⟩:=I.list h1;obtain⟨⟨as,ra⟩,c,dp⟩:=Reps.reads I ds n (h) r1 rv;refine⟨⟨a::as,.list ho hc hd (by simpa using ra)⟩,by simp only[ZT];exact c,?_⟩;simp only[PyData.depth];omega
 |v,u,.dict es,n,h,r,q=>by cases n<;>cases h
theorem Reps.reads (I:Inv X pins σ H s):∀{vs:List V} {us:List Value} (ds:List av) (n:Nat),fZ n ds=Z7->Reps X.K H B vs ds->Vals vs us->(∃as,ReadsAll s.heap us ds as)/\PyData.canLayAll0 ds=Z7/\PyData.depthAll ds<=n
 |vs,us,[],n,_,r,q=>by have e:vs=[]:=r;subst e;cases q;exact⟨⟨[],.nil⟩,by simp only[PyData.canLayAll0],c9 _⟩
 |vs,us,d::ds,n,h,r,q=>by
  obtain⟨v,t,e,h1,r1⟩:=r;subst e;rw[fZ,cg]at h;cases q with
  |cons q1 q2=>obtain⟨⟨as,ra⟩,c,dp⟩:=Rep.reads I d n h.1 h1 q1;obtain⟨⟨bs,rb⟩,c2,O8⟩:=Reps.reads I ds n h.2 r1 q2;refine⟨⟨as++bs,.cons ra rb⟩,by simp only[PyData.canLayAll0,c,c2,Bool.and_self],?_⟩;simp only[PyData.depthAll];exact Nat.max_le.mpr ⟨dp,O8⟩
end
end
def mB (m:D->D->Res Bool):D->D->Res D:=λx y=>m x y>>=λb=>.ok (.bool b)
theorem ye (h:mB m x y=.ok d):∃b,m x y=.ok b/\d=.bool b:=by obtain⟨b,a,c⟩:=Res.aA h;exact⟨b,a,(Res.ok.inj c).symm⟩
theorem C5 (hu:X.A.units+64<cLine):qB X (dz .Eq) (mB (cmpD .Eq)):=by
 rintro a s n H x y v u Q I c f ⟨o,p,dx,dy,d,g,h,e,q⟩
 obtain⟨b,i,rfl⟩:=ye e;have e:=i;have e:(if(bE 40 dx&&bE 40 dy)=Z7 then Res.ok (gI dx dy)else Res.no)=Res.ok b:=e;split at e
 .rename_i hs;cases e;rw[cg]at hs;obtain⟨⟨as,j⟩,k,r⟩:=Rep.reads I dx 40 hs.1 g c;obtain⟨⟨bs,l⟩,m,t⟩:=Rep.reads I dy 40 hs.2 h f;exact SeqAt.compareEq_reads j l k m (by omega) ⟨.bl _,H,I,rfl,q _ H (Same.refl H) rfl⟩
 .cases e
theorem C6 (hu:X.A.units+64<cLine):qB X (dz .NotEq) (mB (cmpD .NotEq)):=by
 rintro a s n H x y v u Q I c f ⟨o,p,dx,dy,d,g,h,e,q⟩
 obtain⟨b,i,rfl⟩:=ye e;have e:=i;have e:(if(bE 40 dx&&bE 40 dy)=Z7 then Res.ok (!gI dx dy)else Res.no)=Res.ok b:=e;split at e
 .rename_i hs;cases e;rw[cg]at hs;obtain⟨⟨as,j⟩,k,r⟩:=Rep.reads I dx 40 hs.1 g c;obtain⟨⟨bs,l⟩,m,t⟩:=Rep.reads I dy 40 hs.2 h f;exact SeqAt.compareNe_reads j l k m (by omega) ⟨.bl _,H,I,rfl,q _ H (Same.refl H) rfl⟩
 .cases e
theorem zn4 {a:CmpOp}{r:R2}(h:OpR X (dz a) r)(f:∀i j b H Q,cmpD a (.int i) (.int j)=.ok b->Q (.bl b) H->r (.int i) (.int j) H Q)
  (hm:∀dx dy b,cmpD a dx dy=.ok b->∃i j,dx=.int i/\dy=.int j):qB X (dz a) (mB (cmpD a)):=by
 refine OpR.imp h λx y H Q h=>?_;obtain⟨l,m,dx,dy,d,g,k,e,q⟩:=h;obtain⟨b,c,rfl⟩:=ye e;obtain⟨i,j,rfl,rfl⟩:=hm dx dy b c;subst g k;exact f i j b H Q c (q _ H (Same.refl H) rfl)
theorem C7:qB X (dz .Lt) (mB (cmpD .Lt)):=zn4 CB (λi j b H Q e q=>by cases e;exact OU q) λdx dy b e=>by cases dx<;>first|exact(eW e).elim|(cases dy<;>first|exact⟨_,_,rfl,rfl⟩|exact(eW e).elim)
theorem C8:qB X (dz .LtE) (mB (cmpD .LtE)):=zn4 CD (λi j b H Q e q=>by cases e;exact OV q) λdx dy b e=>by cases dx<;>first|exact(eW e).elim|(cases dy<;>first|exact⟨_,_,rfl,rfl⟩|exact(eW e).elim)
theorem C9:qB X (dz .Gt) (mB (cmpD .Gt)):=zn4 CF (λi j b H Q e q=>by cases e;exact OW q) λdx dy b e=>by cases dx<;>first|exact(eW e).elim|(cases dy<;>first|exact⟨_,_,rfl,rfl⟩|exact(eW e).elim)
theorem aZ.val {K:Z5}(k:Key):∀{kvs:List (Key×V)} {es:bA},aZ K H B kvs es->match z0g es (kD k)with|some d=>∃v,cM kvs k=Z9 v/\Rep K H B v d|none=>cM kvs k=Z8
 |kvs,[],r=>by have e:=r;subst e;exact rfl
 |kvs,(kd,d)::es,r=>by
  obtain⟨a,v,t,e,c,ok,h,q⟩:=r;subst e c;by_cases z:a=k
  .subst z
   have b:z0g ((kD a,d)::es) (kD a)=Z9 d:=by
    have:eqK (kD a) (kD a)=true:=by cases a<;>simp[kD,eqK]
    unfold z0g;rw[i7 (by exact this)];rfl
   rw[b];exact⟨v,xw rfl,h⟩
  .have f:eqK (kD a) (kD k)=false:=by
    rw[qt];intro w;apply z;cases a<;>cases k<;>simp[kD,eqK]at w<;>rw[w]
   have b:z0g ((kD a,d)::es) (kD k)=z0g es (kD k):=by unfold z0g;rw[nz (f▸jx)]
   rw[b,uh z];exact aZ.val k q
theorem yf {K:Z5}(h:iW d=Z7)(r:Rep K H B v d):∃k,d=kD k/\v=kV k/\keyOk k:=by
 cases d<;>try (cases h;done)
 case int i=>exact⟨.inl i,rfl,r,True.intro⟩
 case str x=>exact⟨.inr x,rfl,r.1,r.2⟩
theorem zjh (hu:X.A.units+64<cLine){f:List (Addr×Obj)}{s:bb}{B:L2.St}{H:Hp}{x y:V}{v u:Value}{Q:VK}(i:Bool)(I:Inv X f B H s)(n:RelV x v)(o:RelV y u)
  {E F:Ad->Prop} {dx dy:D} {b:Bool} (p:Rep X.K H E x dx) (r:Rep X.K H F y dy) (e:inD dx dy=.ok b) (q:Q (.bl (if i then !b else b)) H):
  wpAny (model X.prog X.w) X.A (dz (if i then .NotIn else .In) v u) (EP X f B Q) X.xe s:=by
 cases dy<;>try (cases e;done)
 case list xs=>
  change(if(bE 40 dx&&fZ 40 xs)=Z7 then Res.ok (xs.any λy=>gI y dx)else .no)=_ at e;split at e
  .rename_i hs;cases e;rw[cg]at hs;obtain⟨⟨as,j⟩,l,G⟩:=Rep.reads I dx 40 hs.1 p n;obtain⟨⟨bs,m⟩,t,J⟩:=Rep.reads I (.list xs) 41 hs.2 r o;have c:PyData.canLayAll0 xs=true:=by simpa only[ZT]using t
   cases i
   .exact SeqAt.in_list_reads m j c l (by omega) ⟨.bl _,H,I,rfl,q⟩
   .exact SeqAt.notIn_list_reads m j c l (by omega) ⟨.bl _,H,I,rfl,q⟩
  .cases e
 case tuple xs=>
  change(if(bE 40 dx&&fZ 40 xs)=Z7 then Res.ok (xs.any λy=>gI y dx)else .no)=_ at e;split at e
  .rename_i hs;cases e;rw[cg]at hs;obtain⟨⟨as,j⟩,l,G⟩:=Rep.reads I dx 40 hs.1 p n;obtain⟨⟨bs,m⟩,t,J⟩:=Rep.reads I (.tuple xs) 41 hs.2 r o;have c:PyData.canLayAll0 xs=true:=by simpa only[ZT]using t
   cases i
   .exact SeqAt.in_tuple_reads m j c l (by omega) ⟨.bl _,H,I,rfl,q⟩
   .exact SeqAt.notIn_tuple_reads m j c l (by omega) ⟨.bl _,H,I,rfl,q⟩
  .cases e
 case dict es=>
  change(if iW dx=Z7 then Res.ok (z0g es dx).isSome else .no)=_ at e;split at e
  .rename_i L;cases e;obtain⟨k,rfl,rfl,_⟩:=yf L p;obtain⟨a,kvs,rfl,M,_,N⟩:=r;cases o;have h:=N.val k;have g:DGet H a (kV k) (cM kvs k):=DGet.k M
   have C:(cM kvs k).isSome=(z0g es (kD k)).isSome:=by
    cases e:z0g es (kD k)with
    |none=>rw[e]at h;rw[show cM kvs k=Z8 from h];rfl
    |some d=>rw[e]at h;obtain⟨v,h,_⟩:=h;rw[h];rfl
   cases i
   .exact d_in (by omega) I g n λO z=>⟨.bl _,H,z,rfl,by rw[C];exact q⟩
   .exact zka (by omega) I g n λO z=>⟨.bl _,H,z,rfl,by rw[C];exact q⟩
  .cases e
theorem Dc (hu:X.A.units+64<cLine):qB X (dz .In) (mB (cmpD .In)):=by
 rintro a s j H x y v u Q I c f ⟨k,l,dx,dy,d,g,h,e,q⟩
 obtain⟨b,i,rfl⟩:=ye e;exact zjh hu Z6 I c f g h i (q _ H (Same.refl H) rfl)
theorem O9 (hu:X.A.units+64<cLine):qB X (dz .NotIn) (mB (cmpD .NotIn)):=by
 rintro a s l H x y v u Q I c f ⟨m,n,dx,dy,d,g,h,e,q⟩
 obtain⟨b,i,rfl⟩:=ye e;obtain⟨o,j,k⟩:=Res.aA i;cases k;exact zjh hu Z7 I c f g h j (q _ H (Same.refl H) rfl)
theorem vT (hu:X.A.units+64<cLine)(a:CmpOp)(h:z4r a=Z7):qB X (dz a) (mB (cmpD a)):=by
 cases a<;>try (cases h;done)
 .exact C5 hu
 .exact C6 hu
 .exact C7
 .exact C8
 .exact C9
 .exact Dc hu
 .exact O9 hu
section
variable {X:Cx}{b c e:Expr}{fa fb:Rho->Res GD}
theorem Ae (h:PE X e (tC v))(r:∀H B,Rep X.K H B v d):PE X e (tD X.K λ_=>.ok (.fr,d)):=PE.imp h λa H Q ⟨b,F,x,so,e,q⟩=>by cases e;exact q v H (Same.refl H) (r H _)
theorem O' {i:Nat}(hN:X.N[i]?=Z9 x)(c:Vis X.env.scope x)(hd:Xv x)(a:(x==("__classdict__":Str))=Z6):PE X (.Name x pos) (tD X.K λb=>xU b[i]?):=PE.imp (wY hN c hd a) λg H Q ⟨b,F,x,so,e,q⟩=>by obtain⟨v,d,f⟩:=so.rd e;exact⟨v,d,q v H (Same.refl H) f⟩
theorem Ie {K:Z5}(r:Rep K H' B v d)(h:∀a,B a->BG F H g a)(n:∀b,d=.list b->imms b=Z7->Rep K H' (nw H) v d):Rep K H' (BG F H (gN d g)) v d:=by
 cases d with
 |list b=>
  show Rep K H' (BG F H (if imms b=Z7 then .fr else g)) v _;split
  .rename_i c;exact n b rfl c
  .exact r.weak h
 |_=>exact sN r h
theorem Pa (k:CP i=Z7)(l:PE X a (tD X.K fa))(m:PE X b (tD X.K fb)):PE X (.BinOp a i b pos) (tD X.K λc=>fa c>>=λx=>fb c>>=λy=>eC i x.2 y.2>>=λd=>.ok (gN d (cN [x,y]),d)):=
 PE.imp (NJ (O7 i k) l m) λE H Q ⟨c,F,z,so,e,q⟩=>by
  obtain⟨x,n,e⟩:=Res.aA e;obtain⟨y,o,e⟩:=Res.aA e;obtain⟨d,p,e⟩:=Res.aA e;cases e;refine⟨c,F,x,so,n,λv G f r=>⟨c,F,y,so.same f,o,λu I g s=>⟨_,_,x.2,y.2,d,r.same g λ_ z=>z,s,p,λw t A j B=>q w t ((f.trans g).trans A) (Ie j (λa h=>?_) λC z D=>(B C z D).weak λ_ z=>nw.back (f.trans g) z)⟩⟩⟩;rcases h with h|h|h
  .exact C1 so.aS (f.trans g) h
  .exact yc so.aS (by simp) h
  .exact yc so.aS (by simp) (h.back f)
theorem Pb (c:PE X a (tD X.K fa)):PE X (.UnaryOp .USub a pos) (tD X.K λb=>fa b>>=λx=>match x.2 with|.int i=>.ok (.fr,.int (-i))|_=>.no):=
 PE.imp (NK NQ c) λl H Q ⟨b,F,z,so,e,q⟩=>by
  obtain⟨x,f,e⟩:=Res.aA e;refine⟨b,F,x,so,f,λv h j k=>?_⟩;obtain⟨g,d⟩:=x;cases d<;>try (cases e;done)
  rename_i i;cases e;exact⟨i,k,q _ h j rfl⟩
theorem Ig (h:tD X.K (λa=>fa a>>=λx=>fb a>>=λy=>cmpD f x.2 y.2>>=λb=>.ok (.fr,.bool b)) j H Q):kF (jN X.K (mB (cmpD f))) (tD X.K fa) (tD X.K fb) j H Q:=by obtain⟨a,F,z,so,e,q⟩:=h;obtain⟨x,k,e⟩:=Res.aA e;obtain⟨y,l,e⟩:=Res.aA e;obtain⟨d,m,e⟩:=Res.aA e;cases e;exact⟨a,F,x,so,k,λv s g n=>⟨a,F,y,so.same g,l,λu t i o=>⟨_,_,x.2,y.2,.bool d,n.same i λ_ z=>z,o,by show(cmpD f x.2 y.2>>=λb=>Res.ok (PyData.bool b))=_;rw[m];rfl,λw p r c=>q w p ((g.trans i).trans r) c⟩⟩⟩
theorem zss (hu:X.A.units+64<cLine)(d:z4r op=Z7)(hm:d6 op b=Z6)(e:PE X a (tD X.K fa))(f:PE X b (tD X.K fb)):
  PE X (.Compare a [op] [b] pos) (tD X.K λc=>fa c>>=λx=>fb c>>=λy=>cmpD op x.2 y.2>>=λb=>.ok (.fr,.bool b)):=
 PE.imp (Hb (vT hu op d) e f hm) λg H Q h=>Ig h
theorem De (i:∀a H Q,tD X.K f a H Q->t a H Q)(j:∀b x,f b=.ok x->∃c,x.2=.bool c)(a:L2.St)(H:Hp)(Q:Bool->Hp->Prop)(h:eD X.K (λb=>f b>>=λx=>kK x.2) a H Q):rY t a H Q:=by obtain⟨b,F,c,so,e,q⟩:=h;obtain⟨x,d,e⟩:=Res.aA e;obtain⟨k,g⟩:=j b x d;rw[g]at e;cases e;refine i a H _ ⟨b,F,x,so,d,λv l s r=>?_⟩;rw[g]at r;exact⟨k,r,q l s⟩
theorem Pc (e:(fa a>>=λx=>fb a>>=λy=>cmpD f x.2 y.2>>=λb=>Res.ok ((.fr,.bool b):GD))=.ok x):∃c,x.2=.bool c:=by obtain⟨x,g,e⟩:=Res.aA e;obtain⟨y,h,e⟩:=Res.aA e;obtain⟨d,i,e⟩:=Res.aA e;cases e;exact⟨d,rfl⟩
theorem zts (hu:X.A.units+64<cLine)(d:z4r op=Z7)(hm:d6 op b=Z6)(f:PE X a (tD X.K fa))(g:PE X b (tD X.K fb)):
  PT X (.Compare a [op] [b] pos) (eD X.K λc=>(fa c>>=λx=>fb c>>=λy=>cmpD op x.2 y.2>>=λb=>Res.ok ((.fr,.bool b):GD))>>=λx=>kK x.2):=
 PT.imp (Hc (vT hu op d) f g hm) (De (λi H Q h=>Ig h) λc x e=>Pc e)
theorem Ih {K:Z5}(r:Rep K H B v d):decide (v=.aO)=(match d with|.none=>Z7|_=>Z6):=by
 cases d with
 |none=>have e:v=.aO:=r;subst e;rfl
 |bool b=>have e:v=.bl b:=r;subst e;rfl
 |int b=>have e:v=.int b:=r;subst e;rfl
 |str b=>have e:v=.str b:=r.1;subst e;rfl
 |tuple c=>obtain⟨a,f,e,_⟩:=r;subst e;rfl
 |list c=>obtain⟨a,f,e,_⟩:=r;subst e;rfl
 |dict c=>obtain⟨a,f,e,_⟩:=r;subst e;rfl
def qD (ng:Bool)(fa:Rho->Res GD):Rho->Res GD:=λρ=>fa ρ>>=λx=>.ok (.fr,.bool (match x.2 with|.none=>!ng|_=>ng))
theorem Af (h:tD X.K (qD f fa) k H Q):(if f then zL (tD X.K fa)else pM (tD X.K fa)) k H Q:=by
 obtain⟨i,F,z,so,e,q⟩:=h;obtain⟨x,j,e⟩:=Res.aA e;cases e;cases f with
 |false=>
  refine⟨i,F,x,so,j,λv a b c=>?_⟩
  dsimp only
  rw[Ih c];refine q _ a b ?_;obtain⟨g,d⟩:=x;cases d<;>rfl
 |true=>
  refine⟨i,F,x,so,j,λv a b c=>?_⟩
  dsimp only
  rw[Ih c];refine q _ a b ?_;obtain⟨g,d⟩:=x;cases d<;>rfl
theorem Ii (e:qD a fa ρ=.ok x):∃c,x.2=.bool c:=by obtain⟨x,b,e⟩:=Res.aA e;cases e;exact⟨_,rfl⟩
theorem Pd {j p2}(ho:o=if ng then .IsNot else .Is)(ha:PE X a (tD X.K fa)):PE X (.Compare a [o] [.Constant .none j p2] pos) (tD X.K (qD ng fa)):=by
 subst ho;cases ng with
 |false=>exact PE.imp (zO (zM ha)) λσ H Q h=>Af h
 |true=>exact PE.imp (zO (zN ha)) λσ H Q h=>Af h
theorem Pe {j d}(f:o=if ng then .IsNot else .Is)(c:PE X a (tD X.K fa)):PT X (.Compare a [o] [.Constant .none j d] pos) (eD X.K λb=>qD ng fa b>>=λx=>kK x.2):=by
 subst f;cases ng with
 |false=>exact PT.imp (zP (zM c)) (De (λg H Q h=>Af h) λb x e=>Ii e)
 |true=>exact PT.imp (zP (zN c)) (De (λg H Q h=>Af h) λb x e=>Ii e)
def Df (fa fb:Rho->Res GD):Rho->Res GD:=λρ=>fa ρ>>=λx=>match x.2 with|.bool c=>if c then fb ρ else .ok (.fr,.bool Z6)|_=>.no
def Pf (fa fb:Rho->Res GD):Rho->Res GD:=λρ=>fa ρ>>=λx=>match x.2 with|.bool c=>if c then .ok (.fr,.bool Z7)else fb ρ|_=>.no
theorem Ag (c:Same H g)(so:StOk X.K F H h d)(e:f d=.ok x)(q:∀v a,Same H a->Rep X.K a (BG F H x.1) v x.2->Q v a):tD X.K f h g Q:=⟨d,F,x,so.same c,e,λv a s r=>q v a (c.trans s) (r.weak λ_ b=>b.back c)⟩
theorem Ij {rest:List Expr}(h:PE X a (tD X.K fa))(i:PE X (.BoolOp .And (b::rest) pos) (tD X.K fb)):PE X (.BoolOp .And (a::b::rest) pos) (tD X.K (Df fa fb)):=
 PE.imp (BV h i) λn H Q ⟨j,F,z,so,e,q⟩=>by
  obtain⟨x,k,e⟩:=Res.aA e;refine⟨j,F,x,so,k,λv l f m=>?_⟩;obtain⟨g,d⟩:=x;cases d<;>try (cases e;done)
  rename_i c;refine⟨c,m,?_⟩;cases c with
  |true=>exact jH (Ag f so e q)
  |false=>cases e;exact jG (q _ l f rfl)
theorem yg {rest:List Expr}(h:PE X a (tD X.K fa))(i:PE X (.BoolOp .Or (b::rest) pos) (tD X.K fb)):PE X (.BoolOp .Or (a::b::rest) pos) (tD X.K (Pf fa fb)):=
 PE.imp (Nw h i) λn H Q ⟨j,F,z,so,e,q⟩=>by
  obtain⟨x,k,e⟩:=Res.aA e;refine⟨j,F,x,so,k,λv l f m=>?_⟩;obtain⟨g,d⟩:=x;cases d<;>try (cases e;done)
  rename_i c;refine⟨c,m,?_⟩;cases c with
  |false=>exact jG (Ag f so e q)
  |true=>cases e;exact jH (q _ l f rfl)
theorem Ik {K:Z5}(r:Rep K H B v d)(e:kK d=.ok k):mW K v H k:=by
 cases d with
 |none=>cases e;have c:v=.aO:=r;subst c;exact rfl
 |bool b=>cases e;have c:v=.bl b:=r;subst c;exact rfl
 |int b=>cases e;have c:v=.int b:=r;subst c;show(!decide (b=0))=(b != 0);rw[bne,kq]
 |str b=>
  have c:=r.1;subst c;simp only[kK]at e;split at e
  .rename_i j;cases e;refine⟨qC j,?_⟩;rw[bne,kq]
   congr 1
   rw[decide_eq_decide];omega
  .cases e
 |tuple g=>cases e;obtain⟨a,f,c,h,q⟩:=r;subst c;refine .inr (.inl ⟨f,h,?_⟩);show(!g.isEmpty)=!f.isEmpty;have:=q.length;cases f<;>cases g<;>simp at this ⊢
 |list g=>cases e;obtain⟨a,f,c,h,q⟩:=mL r;subst c;refine .inl ⟨f,h,?_⟩;show(!g.isEmpty)=!f.isEmpty;have:=q.length;cases f<;>cases g<;>simp at this ⊢
 |dict es=>
  cases e;obtain⟨a,kvs,c,h,_,q⟩:=r;subst c;refine .inr (.inr ⟨kvs,h,?_⟩);cases es with
  |nil=>have i:kvs=[]:=q;subst i;rfl
  |cons l m=>obtain⟨k,v,t,i,_⟩:=q;subst i;rfl
theorem Pg (m:PE X a (tD X.K fa)):PE X (.UnaryOp .Not a pos) (tD X.K λh=>fa h>>=λx=>kK x.2>>=λc=>.ok (.fr,.bool (!c))):=by
 rintro d s l H Q I ⟨h,F,z,so,e,q⟩
 obtain⟨x,n,e⟩:=Res.aA e;obtain⟨k,o,e⟩:=Res.aA e;cases e;refine UnaryOp_ (aM (m d s l H (λv f=>Same H f/\Rep X.K f (BG F H x.1) v x.2) I ⟨h,F,x,so,n,λv f i j=>⟨i,j⟩⟩) λv i p=>?_);obtain⟨y,f,r,t,u,j⟩:=p;exact not_of (aM (Hf d i l f y v (λb g=>b=k/\g=f) r t ⟨k,Ik j o,rfl,rfl⟩) λb w ⟨g,A,B,C⟩=>by subst B C;exact⟨.bl _,g,A,rfl,q _ g u rfl⟩)
theorem Ph (c:PE X e (tD X.K fa))(d:∀a,rh e X.env a=(do let v <-a;standAt e.pos;holding [v] (truthy v))):PT X e (eD X.K λb=>fa b>>=λx=>kK x.2):=PT.imp (za4 c d) λj H Q ⟨b,F,k,so,e,q⟩=>by obtain⟨x,f,e⟩:=Res.aA e;exact⟨b,F,x,so,f,λv g h i=>⟨k,Ik i e,q g h⟩⟩
theorem Il (b:Same H H1)(so:StOk X.K F H σ ρ)(e:f ρ=.ok x)(q:∀a,Same H a->Q x a):eD X.K f σ H1 Q:=⟨ρ,F,x,so.same b,e,λa s=>q a (b.trans s)⟩
theorem w_and (f:PT X a (eD X.K g))(h:PW X (.BoolOp .And (b::rest) pos) (eD X.K i)):PW X (.BoolOp .And (a::b::rest) pos) (eD X.K λd=>g d>>=λc=>if c then i d else .ok Z6):=
 PW.imp (BP f h) λm H Q ⟨d,F,k,so,e,q⟩=>by
  obtain⟨x,j,e⟩:=Res.aA e;refine⟨d,F,x,so,j,λn l=>?_⟩;cases x with
  |true=>exact jH (Il l so e q)
  |false=>cases e;simp_all
theorem w_or (f:PT X a (eD X.K g))(h:PW X (.BoolOp .Or (b::rest) pos) (eD X.K i)):PW X (.BoolOp .Or (a::b::rest) pos) (eD X.K λd=>g d>>=λc=>if c then .ok Z7 else i d):=
 PW.imp (BQ f h) λm H Q ⟨d,F,k,so,e,q⟩=>by
  obtain⟨x,j,e⟩:=Res.aA e;refine⟨d,F,x,so,j,λn l=>?_⟩;cases x with
  |false=>exact jG (Il l so e q)
  |true=>cases e;simp_all
theorem mM (d:PT X a (eD X.K f)):PT X (.UnaryOp .Not a pos) (eD X.K λb=>f b>>=λc=>.ok (!c)):=PT.imp (GY d) λj H Q ⟨b,F,k,so,e,q⟩=>by obtain⟨x,g,e⟩:=Res.aA e;cases e;exact⟨b,F,x,so,g,λh i=>q h i⟩
theorem Pj (hc:PT X c (eD X.K g))(h:PE X a (tD X.K fa))(i:PE X b (tD X.K fb)):PE X (.IfExp c a b pos) (tD X.K λd=>g d>>=λk=>if k then fa d else fb d):=
 PE.imp (G1 hc h i) λl H Q ⟨d,F,z,so,e,q⟩=>by
  obtain⟨x,j,e⟩:=Res.aA e;refine⟨d,F,x,so,j,λm f=>?_⟩;cases x with
  |true=>exact jH (Ag f so e q)
  |false=>exact jG (Ag f so e q)
theorem Im:PA X [] (tDA X.K λ_=>.ok []):=PA.imp lD λa H Q ⟨b,F,z,so,e,q⟩=>by cases e;exact q [] H (Same.refl H) rfl
theorem Io (hs:isStar e=Z6)(f:PE X e (tD X.K fa))(hr:PA X es (tDA X.K fs)):PA X (e::es) (tDA X.K λa=>fa a>>=λx=>fs a>>=λb=>.ok (x::b)):=PA.imp (eU f hr hs) λl H Q ⟨a,F,z,so,e,q⟩=>by obtain⟨x,g,e⟩:=Res.aA e;obtain⟨b,h,e⟩:=Res.aA e;cases e;refine⟨a,F,x,so,g,λv m c i=>⟨a,F,b,so.same c,h,λj k d rs=>q _ k (c.trans d) ?_⟩⟩;exact⟨v,j,rfl,i.same d λ_ z=>z,rs.back c⟩
theorem Pk {i}(h:PA X es (tDA X.K fs))(j:∀b d,fs b=.ok d->d.length<=ba):PE X (.Tuple es i pos) (tD X.K λb=>fs b>>=λc=>.ok (gJ (.tuple (c.map (·.2))) (cN c),.tuple (c.map (·.2)))):=PE.imp (Hj h) λm H Q ⟨b,F,z,so,e,q⟩=>by obtain⟨c,f,e⟩:=Res.aA e;cases e;refine⟨b,F,c,so,f,λn o k rs=>?_⟩;have r:=rs.nO λx l a h=>yc so.aS l h;refine⟨by rw[r.length,ae];exact j b c f,λp g=>q _ _ (k.trans (Same.upd g)) (sN (Ic g r λ_ z=>z) λ_ z=>z)⟩
theorem Pl (h:PA X es (tDA X.K fs))(j:∀b f,fs b=.ok f->f.length<=ba):PE X (.List es pos) (tD X.K λb=>fs b>>=λc=>.ok (cN c,.list (c.map (·.2)))):=PE.imp (Hk h) λl H Q ⟨b,F,z,so,e,q⟩=>by obtain⟨c,g,e⟩:=Res.aA e;cases e;refine⟨b,F,c,so,g,λm n i rs=>?_⟩;have r:=rs.nO λx k a h=>yc so.aS k h;refine⟨by rw[r.length,ae];exact j b c g,λp d=>q _ _ (i.trans (Same.upd d)) (sP d r (λ_ z=>z) (C1 so.aS i d))⟩
theorem Pm:PE X (.Dict [] [] pos) (tD X.K λ_=>.ok (.fr,.dict [])):=PE.imp Hy λb H Q ⟨c,F,z,so,e,q⟩=>by cases e;intro p a;exact q _ _ (Same.upd a) ⟨p,[],rfl,bF,a,rfl⟩
end
theorem Pn {b:Type}(a:List b)(i:Int):L2.bT a i=Mi.bT a i:=rfl
theorem Dg (n d:Nat)(o:Option Int):HT.dO n d o=Mi.dO n d o:=by cases o<;>rfl
theorem W3 (a:List V)(b c:Option Int):L2.mY a b c=Mi.cut a b c:=by unfold L2.mY Mi.cut;rw[Dg,Dg]
theorem Reps.cut {K:Z5}(a b:Option Int)(r:Reps K H B c d):Reps K H B (Mi.cut c a b) (Mi.cut d a b):=by unfold Mi.cut;rw[r.length];exact(r.drop _).take _
theorem Reps.bT {K:Z5}(r:Reps K H B c b)(e:Mi.bT b i=Z9 d):∃v,L2.bT c i=Z9 v/\Rep K H B v d:=by
 unfold Mi.bT at e;cases a:Mi.gE b.length i with
 |none=>rw[a]at e;cases e
 |some j=>rw[a]at e;obtain⟨v,f,g⟩:=r.get e;refine⟨v,?_,g⟩;rw[Pn];unfold Mi.bT;rw[r.length,a];exact f
theorem Po (hu:X.A.units+64<cLine):mH X (λx y H Q=>∃a v,x=.ref a/\DGet H a y (Z9 v)/\Q v H):=by intro b c e s k H x y v u Q I f i h hs;obtain⟨a,z,rfl,g,q⟩:=h;cases f;exact tail_any (Hv I g) PySem.F.slot_dict_getitem.lookup (z81 (by omega) I g i λl m j d=>⟨z,H,j,d,q⟩) hs
def jO (K:Z5):R2:=λx y H Q=>∃B B' dx dy d,Rep K H B x dx/\Rep K H B' y dy/\dQ dx dy=.ok d/\∀w,Rep K H B w d->Q w H
theorem Ip (hu:X.A.units+64<cLine):mH X (jO X.K):=by
 intro f g l s G H x y v u Q I J L h hs;refine(OO.or (Po hu)) f g l s G H x y v u Q I J L ?_ hs;obtain⟨B,R,dx,dy,d,m,r,e,q⟩:=h;cases dx<;>try (cases e;done)
 case list xs=>
  cases dy<;>try (cases e;done)
  rename_i i;subst r;obtain⟨a,t,rfl,n,C⟩:=mL m;change Res.eG (Mi.bT xs i)=_ at e;cases b:Mi.bT xs i with
  |none=>rw[b]at e;cases e
  |some D=>rw[b]at e;cases e;obtain⟨w,o,p⟩:=C.bT b;exact .inl (.inl ⟨a,t,i,w,rfl,rfl,n,o,q w p⟩)
 case tuple xs=>
  cases dy<;>try (cases e;done)
  rename_i i;subst r;obtain⟨a,t,rfl,n,C⟩:=m;change Res.eG (Mi.bT xs i)=_ at e;cases b:Mi.bT xs i with
  |none=>rw[b]at e;cases e
  |some D=>rw[b]at e;cases e;obtain⟨w,o,p⟩:=C.bT b;exact .inl (.inr (.inl ⟨a,t,i,w,rfl,rfl,n,o,q w p⟩))
 case str z=>
  cases dy<;>try (cases e;done)
  rename_i i;have M:=m.1;subst M r;change(if z.length<=aT then Res.eG ((Mi.bT z.cps.toList i).map λc=>ZV ⟨#[c]⟩)else .no)=_ at e;split at e
  .rename_i N;cases b:Mi.bT z.cps.toList i with
   |none=>rw[b]at e;cases e
   |some c=>
    rw[b]at e;cases e
    have hc:c∈z.cps.toList:=by
     unfold Mi.bT at b;cases E:Mi.gE z.cps.toList.length i with
     |none=>rw[E]at b;cases b
     |some j=>rw[E]at b;exact aq b
    exact .inl (.inr (.inr ⟨z,i,c,rfl,rfl,qC N,b,q _ ⟨rfl,O1 m.2 hc⟩⟩))
  .cases e
 case dict es=>
  change(if iW _=Z7 then Res.eG (z0g es _)else Res.no)=_ at e;split at e
  .rename_i O;obtain⟨k,rfl,rfl,_⟩:=yf O r;obtain⟨a,kvs,rfl,n,_,P⟩:=m;have F:=P.val k;cases b:z0g es (kD k)with
   |none=>rw[b]at e;cases e
   |some D=>rw[b]at e F;cases e;obtain⟨w,o,p⟩:=F;exact .inr ⟨a,w,rfl,by rw[<-o];exact DGet.k n,q w p⟩
  .cases e
theorem Dh (h:z2v i=Z7):HH i:=λo v=>by cases i<;>first|rfl|cases h
theorem d_ix (hu:X.A.units+64<cLine)(hs:z2v i=Z7)(h:PE X a (tD X.K fa))(j:PE X i (tD X.K k)):
  PE X (.Subscript a i pos) (tD X.K λb=>fa b>>=λx=>k b>>=λy=>dQ x.2 y.2>>=λd=>.ok (gJ d x.1,d)):=
 PE.imp (Cf (Ip hu) h j (Dh hs)) λs H Q ⟨b,F,z,so,e,q⟩=>by obtain⟨x,l,e⟩:=Res.aA e;obtain⟨y,m,e⟩:=Res.aA e;obtain⟨d,n,e⟩:=Res.aA e;cases e;exact⟨b,F,x,so,l,λv t f o=>⟨b,F,y,so.same f,m,λu p g r=>⟨_,_,x.2,y.2,d,o.same g λ_ z=>z,r,n,λw c=>q w p (f.trans g) (sN c λ_ z=>z)⟩⟩⟩
theorem Pp (h:ZW z=Z7)(a b:Option Int):ZW (mK z a b)=true:=
 sO.mpr λc hc=>sO.mp h c (by
  have:c∈Mi.cut z.cps.toList a b:=by simpa[mK]using hc
  exact lg (List.mem_of_mem_take this))
theorem Iq (a b:Option Int)(n:Nat):gr a b 1 n=sliceRange ((Mi.dO n 0 a:Nat):Int) ((Mi.dO n n b:Nat):Int) 1:=by
 delta gr
 simp
 congr 1
 .cases a with
  |none=>rfl
  |some v=>
   simp only[Mi.dO];by_cases h:v<0
   .simp only[tw h];omega
   .simp only[tx h];omega
 .cases b with
  |none=>rfl
  |some v=>
   simp only[Mi.dO];by_cases h:v<0
   .simp only[tw h];omega
   .simp only[tx h];omega
theorem Pq (n d:Nat)(hd:d<=n)(o:Option Int):Mi.dO n d o<=n:=by rw[<-Dg];exact HT.uo n d hd o
theorem Pr (z:Str)(a b:Option Int):Txt.slice z a b=mK z a b:=by
 have hn:z.cps.toList.length=z.length:=by simp[Str.length]
 have e:(gr a b 1 z.length).filterMap (z.cps[·]?)=Mi.cut z.cps.toList a b:=by rw[Iq,oz,pick_run];unfold Mi.cut;rw[hn]
 have f:(gr a b 1 z.length).length=Mi.dO z.length z.length b-Mi.dO z.length 0 a:=by rw[Iq,oz,ae,cx]
 unfold Txt.slice;split
 .rename_i hc;simp at hc;have g:=Pq z.length z.length (ak _) b
  have c:Mi.cut z.cps.toList a b=z.cps.toList:=by
   unfold Mi.cut;rw[hn];by_cases h0:Mi.dO z.length 0 a=0
   .rw[h0,List.drop_zero,n5 (by grind)]
   .have d:z.length=0:=by omega
    have:z.cps.toList=[]:=mz.mp (hn▸d);rw[this];simp
  unfold mK;rw[c]
 .unfold mK;rw[<-e]
def Di (K:Z5):V->Option Int->Option Int->Hp->VK->Prop:=λx lo hi H Q=>∃B dx d,Rep K H B x dx/\pU dx lo hi=.ok d/\∀w H',Same H H'->Rep K H' (λa=>nw H a\/B a) w d->(∀ds,d=.list ds->imms ds=Z7->Rep K H' (nw H) w d)->Q w H'
theorem Pt:pO X (Di X.K):=by
 intro b s k H x v l m c f sl Q I n hs pl o h;refine OP b s k H x v l m c f sl Q I n hs pl o ?_;obtain⟨B,dx,d,r,e,q⟩:=h;cases dx<;>try (cases e;done)
 case list xs=>cases e;obtain⟨a,t,rfl,u,j⟩:=mL r;refine .inl ⟨a,t,rfl,u,λp g=>?_⟩;exact q _ _ (Same.upd g) (sP g (j.cut c f) (λ_ z=>.inr z) (.inl g)) λw z i=>by cases z;exact sP g (Reps.aW (B':=nw H) _ i (j.cut c f)) (λ_ z=>z) g
 case str z=>
  change(if z.length<=aT then Res.ok (ZV (mK z c f))else .no)=_ at e;split at e
  .rename_i y;cases e;have A:x=.str z:=r.1;subst A;refine .inr ⟨z,rfl,qC y,?_⟩;rw[Pr];exact q _ H (Same.refl H) ⟨rfl,Pp r.2 c f⟩ λw z=>by cases z
  .cases e
theorem uG:PO X Z8 (tDO X.K λ_=>.ok Z8):=PO.imp Od λa H Q ⟨b,F,z,so,e,q⟩=>by cases e;exact q H (Same.refl H)
theorem Pu (c:PE X a (tD X.K fa)):PO X (Z9 a) (tDO X.K λb=>fa b>>=λx=>uy x.2):=
 PO.imp (Oe c) λk H Q ⟨b,F,z,so,e,q⟩=>by
  obtain⟨x,f,e⟩:=Res.aA e;refine⟨b,F,x,so,f,λv h i j=>?_⟩;obtain⟨g,d⟩:=x;cases d<;>try (cases e;done)
  cases e;exact⟨_,j,q h i⟩
theorem d_sl {k:Option Expr}(m:PE X a (tD X.K fa))(n:PO X k (tDO X.K fl))(hh:PO X i (tDO X.K o)):
  PE X (.Subscript a (.Slice k i Z8 p2) pos) (tD X.K λb=>fa b>>=λx=>fl b>>=λl=>o b>>=λh=>pU x.2 l h>>=λd=>.ok (gN d (cN [x]),d)):=
 PE.imp (Og Pt m n hh) λD H Q ⟨b,F,z,so,e,q⟩=>by
  obtain⟨x,p,e⟩:=Res.aA e;obtain⟨l,r,e⟩:=Res.aA e;obtain⟨h,s,e⟩:=Res.aA e;obtain⟨d,t,e⟩:=Res.aA e;cases e;refine⟨b,F,x,so,p,λv E c u=>⟨b,F,l,so.same c,r,λG f=>⟨b,F,h,so.same (c.trans f),s,λI g=>⟨_,x.2,d,u.same (f.trans g) λ_ z=>z,t,λw y A j B=>q w y ((c.trans (f.trans g)).trans A) (Ie j (λa h=>?_) λC z i=>(B C z i).weak λ_ z=>nw.back (c.trans (f.trans g)) z)⟩⟩⟩⟩;rcases h with h|h
  .exact C1 so.aS (c.trans (f.trans g)) h
  .exact yc so.aS (by simp) h
theorem Reps.pick {K:Z5}(r:Reps K H B a b):∀is:List Nat,Reps K H B (is.filterMap (a[·]?)) (is.filterMap (b[·]?))
 | []=>rfl
 |i::is=>by
  rw[dt,dt];cases h:b[i]? with
  |some d=>obtain⟨v,c,e⟩:=r.get h;rw[c];exact Reps.cons e (Reps.pick r is)
  |none=>
   have:a[i]?=none:=by rw[List.getElem?_eq_none_iff]at h ⊢;rw[r.length];exact h
   rw[this];exact Reps.pick r is
theorem d_cB {id:String}(hc:CallR X (.builtin id) (z72 X.K m))(hm:X.mg x=Z8)(k:dk x=Z9 (.builtin id))(l:PA X (e::es) (tDA X.K fs))(b:((e::es).all fun e=>!isStar e)=Z7)(n:Gl X x)(hn:x≠"__name__")(c:Xv x):
  PE X (.Call (.Name x p) (e::es) [] pos) (tD X.K λf=>fs f>>=λg=>m (g.map (·.2))>>=λd=>.ok (gJ d .al,d)):=
 PE.imp (zX hc hm k l b n hn c) λu H Q ⟨f,F,z,so,e,q⟩=>by obtain⟨g,o,e⟩:=Res.aA e;obtain⟨d,r,e⟩:=Res.aA e;cases e;exact⟨f,F,g,so,o,λv y j rs=>⟨_,_,d,rs.kM so.aS,r,λw s t i=>q w s (j.trans t) (sN i λa h=>h.elim (λz=>(nw.back j z).aS so.aS) λz=>z)⟩⟩
theorem aZ.length {K:Z5}:∀{kvs:List (Key×V)} {es:bA},aZ K H B kvs es->kvs.length=es.length
 |kvs,[],r=>by have e:kvs=[]:=r;subst e;rfl
 |kvs,(kd,d)::es,r=>by obtain⟨k,v,t,rfl,_,_,_,q⟩:=r;rw[bh,bh,q.length]
theorem yh {K:Z5}(r:Reps K H B a [d]):∃v,a=[v]/\Rep K H B v d:=by obtain⟨v,t,e,h,q⟩:=r;subst e q;exact⟨v,rfl,h⟩
theorem Ah {K:Z5}(r:Reps K H B b [d,c]):∃v a,b=[v,a]/\Rep K H B v d/\Rep K H B a c:=by obtain⟨v,t,e,h,q⟩:=r;obtain⟨a,f,g⟩:=yh q;subst e f;exact⟨v,a,rfl,h,g⟩
theorem Ir:CallR X (.builtin "len") (z72 X.K (iZ "len")):=by
 refine CallR.imp (OQ.or OD) λl H Q h=>?_;obtain⟨B,g,d,r,e,q⟩:=h;simp only[iZ,if_true]at e;split at e
 .rename_i x;obtain⟨v,rfl,i⟩:=yh r;clear r;have r:=i;cases x<;>try (cases e;done)
  case str z=>
   change(if z.length<=aT then Res.ok (ZU z.length)else .no)=_ at e;split at e
   .rename_i j;cases e;have k:=r.1;subst k;exact .inl (.inl ⟨z,rfl,qC j,q _ H (Same.refl H) rfl⟩)
   .cases e
  case tuple g=>cases e;obtain⟨a,b,rfl,c,f⟩:=r;exact .inl (.inr ⟨a,b,rfl,.inr c,q _ H (Same.refl H) (f.length▸rfl)⟩)
  case list g=>cases e;obtain⟨a,b,rfl,c,f⟩:=mL r;exact .inl (.inr ⟨a,b,rfl,.inl c,q _ H (Same.refl H) (f.length▸rfl)⟩)
  case dict g=>cases e;obtain⟨a,b,rfl,c,_,f⟩:=r;exact .inr ⟨a,b,rfl,c,q _ H (Same.refl H) (f.length▸rfl)⟩
 .cases e
theorem Pw (hc:X.calm=Z7):CallR X (.builtin "max") (z72 X.K (iZ "max")):=by
 refine CallR.imp (NW hc) λc H Q h=>?_;obtain⟨B,f,d,r,e,q⟩:=h;simp only[iZ,show("max":String)≠"len" by decide,if_true,if_false]at e;split at e
 .rename_i i j;cases e;obtain⟨v,g,rfl,a,b⟩:=Ah r;subst a b;refine⟨i,j,rfl,q _ H (Same.refl H) ?_⟩
  congr 1
  split<;>omega
 .cases e
theorem Px (hc:X.calm=Z7):CallR X (.builtin "min") (z72 X.K (iZ "min")):=by
 refine CallR.imp (NY hc) λn H Q h=>?_;obtain⟨B,f,d,r,e,q⟩:=h;replace e:minD f=Res.ok d:=e;have g:∀i j:Int,(if j<i then j else i)=min i j:=λi j=>by split<;>omega
 have k:∀{x y:D},min2 x y=.ok d->∃i j,x=.int i/\y=.int j/\d=.int (min i j):=λ{x y} h=>by
  cases x<;>try (exact(eW h).elim)
  cases y<;>try (exact(eW h).elim)
  cases h;exact⟨_,_,rfl,rfl,rfl⟩
 rcases f with _|⟨a,_|⟨b,_|⟨c,f⟩⟩⟩
 .exact(eW e).elim
 .exact(eW e).elim
 .obtain⟨i,j,rfl,rfl,rfl⟩:=k e;obtain⟨v,o,rfl,l,m⟩:=Ah r;subst l m;exact⟨i,j,rfl,q _ H (Same.refl H) (show V.int _=V.int _ by rw[g])⟩
 .exact(eW e).elim
theorem zhd (I:Inv X j q H s)(c:RelV x u)(r:Rep X.K H B x d)(l:T∈tysB)
  (h:∀m,Q (.bool (jJ (hJ d) T)) {s with toks:=m}):wpAny (model X.prog X.w) A (call (.builtin "isinstance") [u,.type T]) Q E s:=by
 have n:hJ d∈pR:=by cases d<;>simp[hJ,pR]
 have e:=OR X.K _ n T l;cases d with
 |none=>have f:x=.aO:=r;subst f;exact z2j I c .aO e h
 |bool b=>have f:x=.bl b:=r;subst f;exact z2j I c (.bl b) e h
 |int b=>have f:x=.int b:=r;subst f;exact z2j I c (.int b) e h
 |str b=>have f:x=.str b:=r.1;subst f;exact z2j I c (.str b) e h
 |tuple p=>obtain⟨a,k,rfl,g,_⟩:=r;cases c;obtain⟨_,_,⟨o,i,hc,_⟩,_⟩:=I.tuple g;exact Z1 W.kitx_tuple I.cL ⟨o,i,hc⟩ e (λz=>nomatch z) h
 |list p=>obtain⟨a,k,rfl,g,_⟩:=mL r;cases c;obtain⟨_,_,⟨o,_,i,hc,_⟩,_⟩:=I.list g;exact Z1 W.kitx_list I.cL ⟨o,i,hc⟩ e (λz=>nomatch z) h
 |dict es=>obtain⟨a,k,rfl,g,_⟩:=r;exact z2j I c (.dK g) e h
def Dj (K:Z5):List V->Hp->VK->Prop:=λxs H Q=>∃B x d T,xs=[x,.ty T]/\Rep K H B x d/\T∈tysB/\Q (.bl (jJ (hJ d) T)) H
theorem Py:CallR X (.builtin "isinstance") (Dj X.K):=by
 rintro a s h H i j Q I r ⟨B,x,d,T,rfl,b,c,q⟩
 obtain⟨u,e,rfl,f,g⟩:=vals2 r;obtain rfl:e=Value.type T:=g;exact zhd I f b c λk=>⟨.bl _,H,I.tok _,rfl,q⟩
theorem zub (hm:X.mg "isinstance"=Z8)(i:Gl X "isinstance")(b:X.mg a=Z8)(c:dk a=Z9 (.type T))(d:Gl X a)(f:a≠"__name__")(g:Xv a)(j:T∈tysB)(hs:isStar y=Z6)(k:PE X y (tD X.K fa)):
  PE X (.Call (.Name "isinstance" p) [y,.Name a r] [] pos) (tD X.K λh=>fa h>>=λx=>.ok (.fr,.bool ([T].any λT=>jJ (hJ x.2) T))):=
 PE.imp (zX Py hm (by decide+kernel) (eU k (eU (Nv (v:=.ty T) d b c rfl f g) lD) hs) (by simp[hs];rfl) i dc dc) λs H Q ⟨h,F,z,so,e,q⟩=>by obtain⟨x,l,e⟩:=Res.aA e;cases e;refine⟨h,F,x,so,l,λv m n o=>?_⟩;refine⟨_,v,x.2,T,rfl,o,j,q _ m n ?_⟩;show V.bl _=V.bl _;simp
def Kp (B:Ad->Prop)(H1 H2:Hp):Prop:=∀a o,H1 a=Z9 o->(B (Z9 a)\/Fix o)->H2 a=Z9 o
theorem Kp.of (s:Same b c):Kp B b c:=λa o e _=>s a o e
structure Walk (K:Z5)(J:It)(B:Ad->Prop)(H1:Hp)(xs:List D):Prop where
 len:xs.length<=ba
 go:∀H2,Kp B H1 H2->∀i,i<xs.length->J.go i H2
 stop:∀H2,Kp B H1 H2->J.stop xs.length H2
 gY:∀H2,Kp B H1 H2->∀i x H3,i<xs.length->J.gY i H2 x H3->Same H2 H3/\∃d,xs[i]?=Z9 d/\Rep K H3 B x d
def tDW (K:Z5)(f:Rho->Res (G×List D)):TI:=λσ H R=>∃ρ F w,StOk K F H σ ρ/\f ρ=.ok w/\∀J B H',Same H H'->(∀a,B a->BG F H w.1 a/\¬nw H' a)->Walk K J B H' w.2->R J H'
theorem _root_.L2.PI.imp (h:PI X c e t)(i:∀a H Q,d a H Q->t a H Q):PI X c e d:=λb s a H Q I q=>h b s a H Q I (i a H Q q)
section
variable {K:Z5}{H:Hp}{B:Ad->Prop}
theorem Pz (h:(H a=Z9 (.lst c)/\B (Z9 a))\/(FL K H a c/\B Z8))(r:Reps K H B c g)(l:g.length<=ba):Walk K (B4 K a) B H g:=by
 have f:∀e,Kp B H e->SqL K e a c:=λe k=>by
  rcases h with⟨h,b⟩|⟨⟨o,h⟩|h,_⟩
  .exact .inl (.inl (k a _ h (.inl b)))
  .exact .inl (.inr ⟨o,k a _ h (.inr True.intro)⟩)
  .exact .inr h
 refine⟨l,λe k i j=>?_,λe k=>⟨c,f e k,by rw[r.length];exact ak _⟩,λe k i x q j y=>?_⟩
 .have m:i<c.length:=r.length▸j;exact⟨c,c[i],f e k,by simp[m]⟩
 .obtain⟨rfl,y⟩:=y;obtain⟨d,n,p⟩:=r.pX (y c (f _ k));exact⟨Same.refl _,d,n,Rep.keep k (λ_ z=>z) d p⟩
theorem PB (h:dD K H a c)(r:Reps K H B c f)(j:f.length<=ba):Walk K (G8 K a) B H f:=by
 have e:∀b,Kp B H b->dD K b a c:=λb k=>h.keep k;refine⟨j,λb k i g=>?_,λb k=>⟨c,e b k,by rw[r.length];exact ak _⟩,λb k i x o g y=>?_⟩
 .have l:i<c.length:=r.length▸g;exact⟨c,c[i],e b k,by simp[l]⟩
 .obtain⟨rfl,y⟩:=y;obtain⟨d,m,n⟩:=r.pX (y c (e _ k));exact⟨Same.refl _,d,m,Rep.keep k (λ_ z=>z) d n⟩
theorem Iu {b:Int}(e:n<=ba):Walk K (xo b n) B H ((bw n).map λ(i:Nat)=>.int (b+i)):=by
 have c:((bw n).map λ(i:Nat)=>(ZU (b+i):D)).length=n:=by simp
 refine⟨by rw[c];exact e,λd k i a=>?_,λd k=>?_,λd k i x f a y=>?_⟩
 .rw[c]at a;exact a
 .show n<=_;rw[c];simp_all
 .obtain⟨rfl,rfl⟩:=y;rw[c]at a;exact⟨Same.refl _,.int (b+i),by rw[ao,ee a];rfl,rfl⟩
end
section
variable {X:Cx}{a b e:Expr}{fc:Rho->Res GD}
theorem z37 {f:List (Addr×Obj)}{r:L2.St}{i:Hp}{c:bb}{v:Value}{y:V}{B:Ad->Prop}{d:D}{s:List D}{R:It->Hp->Prop}(g:Inv X f r i c)(t:RelV y v)(u:Rep X.K i B y d)(e:z54 d=.ok s)
  (q:∀J,Walk X.K J B i s->R J i):wpAny (model X.prog X.w) X.A (ri v) (xm X f r tg R) X.xe c:=by
 cases d<;>try (cases e;done)
 case list ds=>
  cases e;obtain⟨a,x,rfl,h,rs⟩:=u
  have k:SqL X.K i a x:=by
   rcases h with⟨h,_⟩|⟨h|h,_⟩
   .exact .inl (.inl h)
   .exact .inl (.inr h)
   .exact .inr h
  cases t;obtain⟨j,l,p,m⟩:=g.list k;refine mf p.isList (⟨c.heap.objs.size,[c.heap.objs.size],_,_,i,rfl,g.kept (t':=c.toks) λb o e=>am _ e,G9 a _,⟨_,bx _ rfl,rfl,rfl⟩,λb n=>?_,q _ (Pz h rs (rs.length▸m))⟩);have e:b=c.heap.objs.size:=by simpa using n
  subst e;exact g.gZ (ak _) (g.hok.fresh (ak _))
 case tuple ds=>
  cases e;obtain⟨a,x,rfl,k,rs⟩:=u;cases t;obtain⟨j,l,p,m⟩:=g.tuple k;refine qh (show c.heap.IsTuple a j.toArray from p) (⟨c.heap.objs.size,[c.heap.objs.size],_,_,i,rfl,g.kept (t':=c.toks) λb o e=>am _ e,NB a _,⟨_,bx _ rfl,rfl,rfl⟩,λb n=>?_,q _ (PB k rs (rs.length▸m))⟩);have e:b=c.heap.objs.size:=by simpa using n
  subst e;exact g.gZ (ak _) (g.hok.fresh (ak _))
theorem fK (i:PE X a (tD X.K fa)):PI X tg a (tDW X.K λρ=>fa ρ>>=λx=>z54 x.2>>=λg=>.ok (x.1,g)):=by
 rintro b s j H R I ⟨ρ,F,w,so,e,q⟩
 obtain⟨x,k,e⟩:=Res.aA e;obtain⟨g,l,e⟩:=Res.aA e;cases e;refine aM (i b s j H (λv c=>Same H c/\Rep X.K c (BG F H x.1) v x.2) I ⟨ρ,F,x,so,k,λv c h d=>⟨h,d⟩⟩) λv h m=>?_;obtain⟨y,c,n,o,f,d⟩:=m;exact z37 n o (Rep.there _ d) l λJ p=>q J _ c f (λ_ z=>z) p
theorem Dk {n:Int}(a:n<=aT)(b:-aT<=n):-(2 ^ 62)<=n/\n<2 ^ 62:=by unfold aT at *;omega
theorem eV.one {K:Z5}(r:eV K F H H' vs [x]):∃v,vs=[v]/\Rep K H' (BG F H x.1) v x.2:=by obtain⟨v,t,e,h,q⟩:=r;subst e q;exact⟨v,rfl,h⟩
theorem eV.two {K:Z5}(r:eV K F H H' vs [x,y]):∃v w,vs=[v,w]/\Rep K H' (BG F H x.1) v x.2/\Rep K H' (BG F H y.1) w y.2:=by obtain⟨v,t,e,h,q⟩:=r;obtain⟨w,a,b⟩:=q.one;subst e a;exact⟨v,w,rfl,h,b⟩
theorem PD (hm:X.mg "range"=Z8)(l:Gl X "range")(hs:isStar a=Z6)(m:PA X [a] (tDA X.K fs))(o:∀c b,fs c=.ok b->b.length=1):PI X y (.Call (.Name "range" p) [a] [] pos) (tDW X.K λc=>fs c>>=λb=>hP (b.map (·.2))>>=λj=>.ok (.fr,j)):=
 PI.imp (NG l hm m (eQ hs)) λA H R ⟨c,F,w,so,e,q⟩=>by
  obtain⟨b,k,e⟩:=Res.aA e;obtain⟨j,f,e⟩:=Res.aA e;cases e;refine⟨c,F,b,so,k,λB r s rs=>?_⟩
  match b,(o c b k)with
  | [(g,d)],t=>
   obtain⟨v,rfl,u⟩:=rs.one;cases d<;>try (cases f;done)
   rename_i n;subst u;change(if n<=aT/\-aT<=n then Res.ok ((bw n.toNat).map λ(i:Nat)=>ZU i)else .no)=_ at f;split at f
   case isFalse=>cases f
   rename_i hn;cases f;have h:=Dk hn.1 hn.2;refine⟨n,rfl,h.1,h.2,q _ (λ_=>False) r s (λ_ z=>z.elim) ?_⟩;have x:((bw n.toNat).map λ(i:Nat)=>(ZU i:D))=(bw n.toNat).map λi=>.int (0+i):=by apply ls;intro i _;rw[Int.zero_add]
   rw[x];exact Iu (qC (by unfold aT at *;omega))
theorem PF (hm:X.mg "range"=Z8)(s:Gl X "range")(hs:isStar a=Z6)(i:isStar b=Z6)(t:PA X [a,b] (tDA X.K fs))(u:∀f c,fs f=.ok c->c.length=2):PI X tg (.Call (.Name "range" p) [a,b] [] pos) (tDW X.K λf=>fs f>>=λc=>hP (c.map (·.2))>>=λk=>.ok (.fr,k)):=
 PI.imp (zf6 s hm t (by rw[eQ hs,eQ i];rfl) (eQ i)) λD H R ⟨f,F,w,so,e,q⟩=>by
  obtain⟨c,l,e⟩:=Res.aA e;obtain⟨k,h,e⟩:=Res.aA e;cases e;refine⟨f,F,c,so,l,λE x y rs=>?_⟩;have B:=u f c l;rcases c with _|⟨⟨g,d⟩,_|⟨⟨G,A⟩,_|⟨_,_⟩⟩⟩<;>try (simp at B;done)
  obtain⟨v,I,rfl,C,j⟩:=rs.two;cases d<;>try (cases h;done)
  cases A<;>try (cases h;done)
  rename_i n m;subst C j;change(if -aT<=n/\m<=aT/\n<=aT/\-aT<=m then Res.ok ((bw (m-n).toNat).map λ(i:Nat)=>ZU (n+i))else .no)=_ at h;split at h
  case isFalse=>cases h
  rename_i hn;cases h;have o:=Dk hn.2.2.1 hn.1;have r:=Dk hn.2.1 hn.2.2.2;refine⟨n,m,rfl,⟨o.1,o.2,r.1,r.2⟩,q _ (λ_=>False) x y (λ_ z=>z.elim) ?_⟩;refine Iu ?_;rw[cb];unfold aT at *;omega
def Fm.drop (F:Fm)(i:Nat):Fm:={F with O:=λa=>if F.O a=Z9 i then Z8 else F.O a}
theorem Fm.bP {F:Fm}{a:Addr}(h:F.O a=Z8):(F.drop i).O a=none:=by show(if F.O a=Z9 i then Z8 else F.O a)=Z8;rw[h];rfl
theorem Bin.drop {a:Ad}(h:Bin F a):Bin (F.drop i) a:=by
 cases a with
 |none=>exact h
 |some a=>exact⟨Fm.bP h.1,h.2⟩
theorem Slot.drop {K:Z5}(a:j≠i)(h:Slot K F H j g v d):Slot K (F.drop i) H j g v d:=by
 cases g with
 |fr=>
  obtain⟨p,e,o,h⟩:=h;refine⟨p,e,?_,?_⟩
  .show(if F.O p=Z9 i then Z8 else F.O p)=Z9 j;rw[o,tx (λz=>a (tz z))]
  .rcases h with⟨c,f,k,l,r⟩|⟨c,f,k,l,r⟩
   .exact .inl ⟨c,f,k,l,r.weak λ_ b=>b.drop⟩
   .exact .inr ⟨c,f,k,l,aZ.same (λ_ _ e=>e) (λ_ b=>b.drop) r⟩
 |od=>exact h
 |al=>exact h
 |nu=>exact Rep.weak (λ_ b=>b.drop) h
def BI (F:Fm):G->Ad->Prop
 |.od=>eJ F
 |.fr=>bV F
 |.al=>bV F
 |.nu=>bV F
theorem BI.of {a:Ad}(b:∀a,H a=Z8->F.V a)(h:BG F H g a):BI F g a:=by
 cases g with
 |fr=>exact nw.aS b h
 |od=>exact h
 |al=>exact h
 |nu=>exact h.elim (nw.aS b) Bin.aS
theorem StOk.nQ {K:Z5}(so:StOk K F H f h)(r:Rep K H (BI F x.1) v x.2):StOk K (F.drop i) H (f.set i (Z9 v)) (h.set i (Z9 (z1f x))) where
 ext:=so.ext
 aS:=so.aS
 own:=λa j e=>by
  have k:F.O a=Z9 j:=by
   have:(if F.O a=Z9 i then Z8 else F.O a)=Z9 j:=e;split at this
   .cases this
   .exact this
  exact so.own a j k
 len:=by rw[cw,cw];exact so.len
 sl:=λj g d e=>by
  by_cases c:i=j
  .subst c;rw[du]at e;simp only[if_true]at e;split at e
   .rename_i l;have b:z1f x=(g,d):=by simpa using e
    refine⟨v,?_,?_⟩
    .rw[du];simp[so.len,l]
    .obtain⟨m,dx⟩:=x;cases m with
     |fr=>cases b;exact r
     |od=>cases b;exact r
     |al=>cases b;exact r
     |nu=>cases b;exact r
   .cases e
  .rw[b9 c]at e ⊢;obtain⟨u,n,o⟩:=so.sl j g d e;exact⟨u,n,o.drop λz=>c z.symm⟩
structure Keeps (F F':Fm)(is:List Nat)(σ σ':L2.St):Prop where
 h0:F'.H0=F.H0
 v:F'.V=F.V
 z:F'.z=F.z
 o:∀a,F.O a=Z8->F'.O a=Z8
 len:σ'.length=σ.length
 rest:∀j,j∉is->σ'[j]?=σ[j]?
theorem Keeps.refl:Keeps F F is σ σ:=⟨rfl,rfl,rfl,λ_ h=>h,rfl,λ_ _=>rfl⟩
theorem Keeps.set {v:Option V}(h:i∈is):Keeps F (F.drop i) is σ (σ.set i v):=⟨rfl,rfl,rfl,λ_ h=>Fm.bP h,cw,λj a=>b9 λz=>a (by rw[<-z];exact h)⟩
theorem Keeps.trans (a:Keeps F f is σ d)(b:Keeps f PH is d c):Keeps F PH is σ c:=⟨b.h0.trans a.h0,b.v.trans a.v,b.z.trans a.z,λx h=>b.o x (a.o x h),b.len.trans a.len,λj e=>(b.rest j e).trans (a.rest j e)⟩
def tDG (K:Z5)(t:Tg):TG:=λv σ H Q=>∃ρ F x cF,StOk K F H σ ρ/\Rep K H (BI F x.1) v x.2/\fD t x ρ=.ok cF/\∀σ' F',StOk K F' H σ' cF->Keeps F F' (tgIx t) σ σ'->Q σ' H
theorem _root_.L2.PG.imp (h:PG X e t)(i:∀v a H Q,c v a H Q->t v a H Q):PG X e c:=λb s a H v u Q I r q=>h b s a H v u Q I r (i v a H Q q)
theorem _root_.L2.PGs.imp {e:List Expr}(h:PGs X e t)(i:∀v a H Q,c v a H Q->t v a H Q):PGs X e c:=λb s a H v u Q I r q=>h b s a H v u Q I r (i v a H Q q)
theorem PJ (hN:X.N.Nodup)(a:X.N[i]?=Z9 x)(b:Loc X.env.scope x)(hf:X.fn x=Z7\/X.env.scope.names.lookup x=Z9 .local):PG X (.Name x pos) (tDG X.K (.nm i)):=PG.imp (B1 hN a b hf) λv d H Q ⟨f,F,x,c,so,r,e,q⟩=>by cases e;exact q _ _ (so.nQ r) (Keeps.set (by simp[tgIx]))
def nR (K:Z5)(all is:List Nat):vN:=λvs σ H Q=>∃ρ F g ds cF,(∀i∈is,i∈all)/\StOk K F H σ ρ/\Reps K H (BI F g) vs ds/\ux ρ is ds g=Z9 cF/\∀σ' F',StOk K F' H σ' cF->Keeps F F' all σ σ'->Q σ' H
theorem PL:PGs X [] (nR X.K all []):=
 PGs.imp NA λf b H Q ⟨h,F,g,a,c,_,so,r,e,q⟩=>by
  cases a with
  |nil=>cases e;exact⟨r,q b F so Keeps.refl⟩
  |cons d a=>cases e
theorem PM (hN:X.N.Nodup)(c:X.N[i]?=Z9 x)(u:Loc X.env.scope x)(hf:X.fn x=Z7\/X.env.scope.names.lookup x=Z9 .local)(h:PGs X es (nR X.K all is)):PGs X (.Name x p::es) (nR X.K all (i::is)):=
 PGs.imp (zhn (B1 hN c u hf) h (by rfl)) λB C H Q ⟨w,F,g,l,m,f,so,r,e,q⟩=>by
  cases l with
  |nil=>cases e
  |cons d l=>
   obtain⟨v,t,rfl,s,y⟩:=r;refine⟨v,t,rfl,w.set i (Z9 (z1f (gJ d g,d))),F.drop i,g,l,m,λj z=>f j (bc _ z),?_,?_,e,λn A o k=>q n A o ((Keeps.set (f i bg)).trans k)⟩
   .refine so.nQ ?_;unfold gJ;by_cases c:imm d=Z7
    .rw[tw c];exact Rep.aW d c s
    .rw[tx c];exact s
   .exact y.weak λa b=>by cases g<;>exact b
theorem PN {is:List Nat}{es:List Expr}{k:Nat}{n:Nat}(hc:X.calm=Z7)(h:PGs X es (nR X.K is is))(hn:(gm es X.env).length=n)(p:(gm es X.env).findIdx? (·.1)=Z8)(x:is.length=n):PG X (.Tuple es k pos) (tDG X.K (.tp is)):=
 λl s y H v u Q I z ⟨f,F,⟨g,d⟩,j,so,r,e,q⟩=>by
  have m:∀is b f c,ux f is b g=Z9 c->is.length=b.length:=by
   intro is
   induction is with
   |nil=>intro b f c h;cases b with
    |nil=>rfl
    |cons _ _=>cases h
   |cons i is A=>intro b f c h;cases b with
    |nil=>cases h
    |cons d b=>rw[bh,bh,A b _ _ h]
  have t:∀b,Res.eG (ux f is b g)=.ok j->ux f is b g=Z9 j:=λb e=>by
   cases o:ux f is b g with
   |none=>rw[o]at e;cases e
   |some c=>rw[o]at e;rw[Res.ok.inj e]
  cases d<;>try (cases e;done)
  case tuple b=>have o:=t b e;obtain⟨a,B,rfl,C,w⟩:=r;exact zrd hc h hn p l s y H _ u Q I z ⟨a,B,rfl,C,by rw[w.length,<-m _ _ _ _ o];exact x,f,F,g,b,j,λ_ h=>h,so,w,o,q⟩
theorem StOk.blk {K:Z5}(so:StOk K F H s k)(m:Nat)(js:List Nat)(l:Addr)(u:List V)(c:H l=Z8):
  StOk K {F with V:=λa=>F.V a/\a≠l,O:=λ_=>Z8} (upd H l (.lst u)) (fH m js s) (ay m Z8++js.map λj=>fI (k.getD j Z8)) where
 ext:=λa o e=>by have:=so.ext a o e;rw[aG (bR this c)];exact this
 aS:=λa e=>by
  by_cases h:a=l
  .subst h;rw[bF]at e;cases e
  .rw[aG h]at e;exact⟨so.aS a e,h⟩
 own:=λa i e=>by cases e
 len:=by unfold fH;simp
 sl:=λi g d e=>by
  have n:∀a,bV F a/\¬nw H a->bV {F with V:=λa=>F.V a/\a≠l,O:=λ_=>Z8} a:=λa h=>by
   cases a with
   |none=>exact h.1
   |some a=>exact⟨h.1,λz=>h.2 (z▸c)⟩
  have p:∀a,eJ F a/\¬nw H a->eJ {F with V:=λa=>F.V a/\a≠l,O:=λ_=>Z8} a:=λa h=>by
   cases a with
   |none=>exact h.1
   |some a=>exact⟨h.1.1,h.1.2,λz=>h.2 (z▸c)⟩
  rw[lh]at e;split at e
  .rw[cz]at e;split at e<;>cases e
  .rename_i w;rw[b6]at w e;rw[ao]at e;cases q:js[i-m]? with
   |none=>rw[q]at e;cases e
   |some j=>
    rw[q]at e;have b:fI (k.getD j Z8)=Z9 (g,d):=tz e;cases r:k[j]? with
    |none=>rw[aa,r]at b;cases b
    |some o=>
     rw[aa,r]at b;cases o with
     |none=>cases b
     |some gd=>
      obtain⟨t,d0⟩:=gd;obtain⟨v,x,f⟩:=so.sl j t d0 r;refine⟨v,?_,?_⟩
      .unfold fH;rw[b8 (by grind),b6,ao,q];show Z9 (s.getD j Z8)=_;rw[aa,x];rfl
      .cases t with
       |fr=>cases b;exact Rep.same (Same.upd c) n (Rep.there _ (f.rep so.jK))
       |od=>cases b;exact Rep.same (Same.upd c) p (Rep.there _ f)
       |al=>cases b;exact Rep.same (Same.upd c) n (Rep.there _ f)
       |nu=>cases b;exact Rep.same (Same.upd c) n (Rep.there _ (f.rep so.jK))
theorem Dl:∀l m r,lG f (l++m)=.ok r->∃a b,lG f l=.ok a/\lG f m=.ok b/\r=a++b
 | [],m,r,h=>⟨[],r,rfl,h,rfl⟩
 |x::l,m,r,h=>by
  obtain⟨o,c,h⟩:=Res.aA h;obtain⟨d,e,h⟩:=Res.aA h;obtain⟨a,b,g,i,rfl⟩:=Dl l m d e;cases h;refine⟨oc o a,b,?_,i,?_⟩
  .show(f x>>=λo=>lG f l>>=λr=>Res.ok (oc o r))=_;rw[c,Res.aB,g,Res.aB]
  .cases o<;>rfl
theorem eV.snoc {K:Z5}:∀{a:List V} {b:List GD} {v:V} {x:GD},eV K F H c a b->Rep K c (BG F H x.1) v x.2->eV K F H c (a++[v]) (b++[x])
 |a,[],v,x,r,h=>by have e:a=[]:=r;subst e;exact⟨v,[],rfl,h,rfl⟩
 |a,y::f,v,x,r,h=>by obtain⟨u,t,rfl,d,q⟩:=r;exact⟨u,t++[v],rfl,d,q.snoc h⟩
theorem eV.keep {K:Z5}(d:∀a o g,f a=Z9 o->(BG F H g (Z9 a)\/Fix o)->h a=Z9 o):∀{c:List V} {xs:List GD},eV K F H f c xs->eV K F H h c xs
 |c,[],r=>r
 |c,y::ys,r=>by obtain⟨u,t,e,i,q⟩:=r;exact⟨u,t,e,Rep.keep (λa o e b=>d a o y.1 e b) (λ_ z=>z) _ i,q.keep d⟩
theorem eV.len {K:Z5}:∀{a:List V} {xs:List GD},eV K F H H' a xs->a.length=xs.length
 |a,[],r=>by have e:a=[]:=r;subst e;rfl
 |a,y::b,r=>by obtain⟨u,t,rfl,c,q⟩:=r;rw[bh,bh,q.len]
theorem Iv:∀l r,lG f l=.ok r->r.length<=l.length
 | [],r,h=>by cases h;simp_all
 |x::l,r,h=>by
  obtain⟨o,c,h⟩:=Res.aA h;obtain⟨a,b,h⟩:=Res.aA h;have:=Iv l a b;cases h;cases o with
  |none=>exact bj this (by simp)
  |some y=>simp only[oc,bh];omega
def zg8 (nt:Nat)(js:List Nat)(t:Tg)(fw:Rho->Res (G×List D))(fc:Rho->Res Bool)(fe:Rho->Res GD):Rho->Res GD:=λρ=>fw ρ>>=λw=>lG (λx=>fD t (gJ x w.1,x) (ay nt Z8++js.map λj=>fI (ρ.getD j Z8))>>=λρ1=>fc ρ1>>=λk=>if k then fe ρ1>>=λy=>.ok (Z9 y)else .ok Z8) w.2>>=λys=>.ok (sE ys,.list (ys.map (·.2)))
def PQ (g:TG)(tc:TT)(te:TE)(em:L2.St->L2.St)(σ:L2.St)(Q:VK):It->Hp->Prop:=λJ H1=>∀l,H1 l=Z8->∃P:Nat->Nat->List V->Hp->Prop,(∃m,P 0 m [] (upd H1 l (.lst [])))/\∀i m acc H2,P i m acc H2->(J.stop i H2/\Q (.ref l) H2)\/(J.go i H2/\acc.length<ba/\∃N:List V->Hp->Prop,(∀iG H',N iG H'->∃m',m'<m/\P (i+1) m' iG H')/\∀x H3,J.gY i H2 x H3->g x (em σ) H3 λiH H4=>fX (em σ) iH/\tc iH H4 λb H5=>if b=Z7 then te iH H5 λy H6=>H6 l=Z9 (.lst acc)/\N (acc++[y]) (upd H6 l (.lst (acc++[y])))else N acc H5)
abbrev CI (K:Z5)(F:Fm)(f:D->Res (Option GD))(ds:List D)(H1:Hp)(l:Nat)(i:Nat)(acc:List V)(H2:Hp):Prop:=H2 l=Z9 (.lst acc)/\(∀a o,H1 a=Z9 o->H2 a=Z9 o)/\∃ys,lG f (ds.take i)=.ok ys/\eV K F (upd H1 l (.lst [])) H2 acc ys
theorem zbg {fc:Rho->Res Bool}(ht0:∀i∈tgIx t,i<nt)(so:StOk X.K F H σ ρ)(e:zg8 nt js t fw fc fe ρ=.ok z)(q:∀v D,Same H D->Rep X.K D (BG F H z.1) v z.2->Q v D):
  ∃w,fw ρ=.ok w/\∀J B D,Same H D->(∀a,B a->BG F H w.1 a/\¬nw D a)->Walk X.K J B D w.2->PQ (tDG X.K t) (eD X.K fc) (tD X.K fe) (fH nt js) σ Q J D:=by
 obtain⟨w,W,e⟩:=Res.aA e;obtain⟨Y,e2,e⟩:=Res.aA e;cases e;refine⟨w,W,λJ B s s1 hB wk l I=>?_⟩;generalize hr:(ay nt Z8++js.map λj=>fI (ρ.getD j Z8))=Iw at e2;generalize hf:(λx=>fD t (gJ x w.1,x) Iw>>=λn=>fc n>>=λk=>if k then fe n>>=λy=>Res.ok (Z9 y)else .ok Z8)=f at e2;have Ai:=so.same s1;have Dm:∀i,∃S,lG f (w.2.take i)=.ok S:=λi=>by rw[<-oo i w.2]at e2;obtain⟨r1,r2,T,_,_⟩:=Dl _ _ _ e2;exact⟨r1,T⟩
 let L:Fm:={F with V:=λa=>F.V a/\a≠l,O:=λ_=>Z8}
 refine zu8 (CI X.K L f w.2 s l) wk.len ?_ ?_ ?_ ?_ ?_
 .exact⟨bF,λa o e=>by rw[aG (bR e I)];exact e,[],rfl,rfl⟩
 .rintro i p U ⟨_,_,S,M,rs⟩
  rw[rs.len];have:=Iv _ _ M;rw[eh]at this;omega
 .rintro p U ⟨T,E,S,M,rs⟩
  rw[gw]at M;rw[e2]at M;cases M;refine⟨wk.stop U (λa o e _=>E a o e),q _ _ (λa o e=>E a o (s1 a o e)) ?_⟩;have Iy:=s1.none I;refine⟨l,p,rfl,.inl ⟨T,?_⟩,rs.nO λx hx a hb=>?_⟩
  .show BG F H (sE Y) (Z9 l);unfold sE;split
   .exact Iy
   .exact so.aS l Iy
  .unfold sE;by_cases ea:(Y.all λx=>x.1==.fr)=Z7
   .rw[tw ea];have PR:x.1=.fr:=by simpa using cc.mp ea x hx
    rw[PR]at hb;cases a with
    |none=>exact hb
    |some a=>
     have Iz:upd s l (.lst []) a=none:=hb
     have:s a=none:=by
      by_cases c:a=l
      .subst c;exact I
      .rw[aG c]at Iz;exact Iz
     exact s1.none this
   .rw[tx ea];have:bV L a:=BG.aS (λa e=>((Ai.blk nt js l [] I).aS a e)) hb;cases a with
    |none=>exact this
    |some a=>exact this.1
 .rintro i p U N ⟨_,E,_⟩
  exact wk.go U (λa o e _=>E a o e) i N
 .rintro i p U x H3 N ⟨T,E,S,M,rs⟩ y
  obtain⟨s3,d,hd,rx⟩:=wk.gY U (λa o e _=>E a o e) i x H3 N y;obtain⟨W4,A⟩:=Dm (i+1);have P:w.2.take (i+1)=w.2.take i++[d]:=by rw[List.take_add_one,hd];rfl
  rw[P]at A;obtain⟨r1,r2,g1,g2,g3⟩:=Dl _ _ _ A;rw[M]at g1;cases g1;obtain⟨o,C,g2⟩:=Res.aA g2;obtain⟨r3,g5,g2⟩:=Res.aA g2;cases g5;rw[<-hf]at C;obtain⟨n,k1,C⟩:=Res.aA C;obtain⟨k,k2,C⟩:=Res.aA C
  have sb:StOk X.K L H3 (fH nt js σ) Iw:=by
   rw[<-hr];refine(Ai.blk nt js l p I).same λa o e=>s3 a o ?_;by_cases c:a=l
   .subst c;rw[bF]at e;rw[T];exact e
   .rw[aG c]at e;exact E a o e
  have Dp:Rep X.K H3 (BI L (gJ d w.1)) x d:=by
   unfold gJ;by_cases N:imm d=Z7
   .rw[tw N];exact Rep.aW d N rx
   .rw[tx N];refine rx.weak λa b=>?_;obtain⟨r,b2⟩:=hB a b;have G:=BI.of so.aS r;cases a with
    |none=>cases hw:w.1<;>rw[hw]at G<;>exact G
    |some a=>
     have c:a≠l:=λz=>b2 (by rw[z];exact I);cases hw:w.1<;>rw[hw]at G
     .exact⟨G,c⟩
     .exact⟨G.1,G.2,c⟩
     .exact⟨G,c⟩
     .exact⟨G,c⟩
  refine⟨_,L,(gJ d w.1,d),n,sb,Dp,k1,λiH R Aj h=>⟨⟨h.len.symm,λj v hj=>?_⟩,n,R,k,Aj,k2,λH5 s5=>?_⟩⟩
  .by_cases IA:j∈tgIx t
   .have :=ht0 j IA;unfold fH at hj;rw[cy (b6▸this),cz,tw this]at hj;cases hj
   .rw[h.rest j IA];exact hj
  .have h5:∀a o,s a=Z9 o->H5 a=Z9 o:=λa o e=>s5 a o (s3 a o (E a o e));have u:=s5 _ _ (s3 _ _ T);have IB:=rs.keep λa o g e _=>s5 a o (s3 a o e);cases k with
   |false=>cases C;cases g2;refine jG ⟨u,h5,S,?_,IB⟩;rw[P,A,g3];simp[oc]
   |true=>
    obtain⟨yv,k3,C⟩:=Res.aA C;cases C;cases g2;refine jH ⟨n,R,yv,Aj.same s5,k3,λv H6 s6 rv=>⟨s6 _ _ u,bF,λa o e=>?_,S++[yv],?_,?_⟩⟩
    .rw[aG (bR e I)];exact s6 a o (h5 a o e)
    .rw[P,A,g3];rfl
    .have PU:=s6 _ _ u
     have hk:∀a o g,H6 a=Z9 o->(BG L (upd s l (.lst [])) g (Z9 a)\/Fix o)->upd H6 l (.lst (p++[v])) a=Z9 o:=λa o g e b=>by
      have c:a≠l:=by
       intro z;subst z;rcases b with b|b
       .cases g with
        |fr=>have m:upd s a (.lst []) a=none:=b;rw[bF]at m;cases m
        |od=>exact b.2.2 rfl
        |al=>exact b.2 rfl
        |nu=>
         rcases b with b|b
         .have m:upd s a (.lst []) a=none:=b;rw[bF]at m;cases m
         .exact b.2.2.2 rfl
       .rw[PU]at e;cases e;exact b
      rw[aG c];exact e
     have PV:Rep X.K H6 (BG L (upd s l (.lst [])) yv.1) v yv.2:=by
      refine rv.weak λa b=>?_;cases hg:yv.1 with
      |fr=>
       rw[hg]at b;cases a with
       |none=>exact b
       |some a=>
        have m:H5 a=none:=b;show upd s l (.lst []) a=Z8;rw[aG (λz=>by rw[z,u]at m;cases m)];cases W:s a with
        |none=>rfl
        |some o=>rw[h5 a o W]at m;cases m
      |nu=>
       rw[hg]at b;cases a with
       |none=>exact b
       |some a=>
        rcases b with b|b
        .have m:H5 a=none:=b;refine .inl ?_;show upd s l (.lst []) a=Z8;rw[aG (λz=>by rw[z,u]at m;cases m)];cases W:s a with
         |none=>rfl
         |some o=>rw[h5 a o W]at m;cases m
        .refine .inr ⟨rfl,?_,?_⟩
         .have:=b.2.1;rw[h.h0]at this;exact this
         .have:=b.2.2;rw[h.v]at this;exact this
      |od=>
       rw[hg]at b;cases a with
       |none=>have r:R.z:=b;rw[h.z]at r;exact r
       |some a=>have r:R.H0 a≠Z8/\R.V a:=b;rw[h.h0,h.v]at r;exact r
      |al=>
       rw[hg]at b;cases a with
       |none=>have r:R.z:=b;rw[h.z]at r;exact r
       |some a=>have r:R.V a:=b;rw[h.v]at r;exact r
     exact((IB.keep λa o g e _=>s6 a o e).snoc PV).keep hk
theorem PX {fc:Rho->Res Bool}(a:∀i∈tgIx t,i<c):∀b H Q,tD X.K (zg8 c js t fw fc fe) b H Q->xJ (tDW X.K fw) (tDG X.K t) (eD X.K fc) (tD X.K fe) (fH c js) b H Q:=by
 rintro b H Q ⟨d,F,z,so,e,q⟩
 obtain⟨w,f,h⟩:=zbg a so e q;exact⟨d,F,w,so,f,h⟩
theorem zbv {fc:Rho->Res Bool}(hc:X.calm=Z7)(k:BlkScope X scope d c js)(e:∀i∈tgIx t,i<c)(l:PI X h iter (tDW X.K fw))
  (m:∀C b s H,PG (blk X scope d C b s H) h (tDG X.K t)) (n:∀C b s H,pQ (blk X scope d C b s H) f (eD X.K fc)) (o:∀C b s H,PE (blk X scope d C b s H) g (tD X.K fe)) (hs:∀x,gf iter X.env x=pure x):
  PE X (.ListComp g [⟨h,iter,f,0⟩] scope pos) (tD X.K (zg8 c js t fw fc fe))/\∀j H Q,tD X.K (zg8 c js t fw fc fe) j H Q->xJ (tDW X.K fw) (tDG X.K t) (eD X.K fc) (tD X.K fe) (fH c js) j H Q:=by
 have a:=PX (X:=X) (js:=js) (fw:=fw) (fc:=fc) (fe:=fe) e;exact⟨PE.imp (z9w hc k l m n o hs) a,a⟩
end
def BC (H:Hp)(A:Ad->Prop):G->Ad->Prop
 |.fr=>nw H
 |.od=>λa=>nw H a\/A a
 |.al=>λa=>nw H a\/A a
 |.nu=>nw H
def spD (K:Z5)(n:Nat)(m:Fn):Sp:=λvs H Q _=>∃A ds x,vs.length=n/\Reps K H A vs ds/\m ds=.ok x/\∀v H',Same H H'->Rep K H' (BC H A x.1) v x.2->Q v H'
section
variable {X:Cx}{a e:Expr}
theorem zog (o:Cal X.prog X.w X.K X.mg X.base k x ps (spD X.K n m))(hr:Room s X.A)(t:k<=s)(u:PA X (e::es) (tDA X.K fs))(g:((e::es).all fun e=> !isStar e)=Z7)(c:Gl X x)(i:Xv x)
  (y:∀d b,fs d=.ok b->b.length=n):PE X (.Call (.Name x p) (e::es) [] pos) (tD X.K λd=>fs d>>=λb=>m (b.map (·.2))>>=λr=>.ok (gJ r.2 (kL r.1),r.2)):=
 PE.imp (zgf o hr u g t c i) λI H Q ⟨d,F,z,so,e,q⟩=>by
  obtain⟨b,j,e⟩:=Res.aA e;obtain⟨r,B,e⟩:=Res.aA e;cases e;refine⟨d,F,b,so,j,λC l f rs=>?_⟩;show spD X.K n m (C++[]) l Q E0;rw[dw];refine⟨_,_,r,by rw[rs.len];exact y d b j,rs.kM so.aS,B,λv D E G=>q v D (f.trans E) (sN G λa h=>?_)⟩;have al:(nw l a\/bV F a)->bV F a:=λh=>h.elim (λh=>(nw.back f h).aS so.aS) λh=>h;cases c:r.1 with
  |fr=>rw[c]at h;exact nw.back f h
  |od=>rw[c]at h;exact al h
  |al=>rw[c]at h;exact al h
  |nu=>rw[c]at h;exact nw.back f h
def rMt (K:Z5)(m:String):V->List V->Hp->VK->Prop:=λx xs H Q=>∃B B' dx ds d,Rep K H B x dx/\Reps K H B' xs ds/\mtD m dx ds=.ok d/\∀w H',Same H H'->Rep K H' (λa=>nw H a\/B a\/B' a) w d->Q w H'
theorem nB (h:z0w o=Z7):kz o n env w=w:=by
 cases o with
 |Call f a k p=>
  cases f with
  |Name x q=>
   cases a with
   |nil=>
    cases k with
    |nil=>cases h
    |cons _ _=>rfl
   |cons _ _=>rfl
  |_=>rfl
 |_=>rfl
theorem Dq:∀{es:List Expr},(es.all λe=> !isStar e)=Z7->(jn pos (dj es env)).all (λx=> !x.1)=Z7
 | [],_=>rfl
 |e::es,h=>by have h:=au.mp (db▸h);rw[eQ (by simpa using h.1)];show(Z7&&(jn pos (dj es env)).all (λx=>!x.1))=Z7;rw[Dq h.2];rfl
theorem z9u (h:(es.all fun e=> !isStar e)=Z7)(a:es.length<20):((jn cpos (dj es env)).all (fun x=> !x.1)&&(ou cpos (k8 [] env)).all (fun x=>x.1.isSome)
  &&decide (es.length+([]:List nr).length+(if([]:List nr).isEmpty then 0 else 1)<30))=true:=by
 rw[Dq h];show(Z7&&Z7&&decide (es.length+0+0<30))=Z7;rw[ua (by omega)];rfl
theorem d_mt {id:String}(pa:sy T)(slot:PySem.Slot T n id)(l:tu (.builtin id)=pure (.type "method_descriptor"))(hm:MtR X id (rMt X.K m))(A:∀H B x dx C d,Rep X.K H B x dx->mtD m dx C=.ok d->tyV X.K T x H)
  (D:PE X o (tD X.K fa)) (E:PA X (e::es) (tDA X.K fs)) (p:z0w o=Z7) (f:((e::es).all λe=>!isStar e)=Z7) (G:(e::es).length<20) (c:(g.endLine==i.line)=Z7):
  PE X (.Call (.Attribute o n g) (e::es) [] i) (tD X.K λj=>fa j>>=λx=>fs j>>=λr=>mtD m x.2 (r.map (·.2))>>=λd=>.ok (gJ d .al,d)):=by
 have b:=f;rw[db,cg]at b;refine PE.imp (zl6 pa slot l hm D E (nB p) (z9u f G) c (eQ (by simpa using b.1)) (mJ b.2)) λP H Q I=>?_;obtain⟨j,F,z,so,e,q⟩:=I;obtain⟨x,J,e⟩:=Res.aA e;obtain⟨r,L,e⟩:=Res.aA e;obtain⟨d,u,e⟩:=Res.aA e;cases e;refine⟨j,F,x,so,J,λv M k y=>⟨A M _ v x.2 _ d y u,j,F,r,so.same k,L,λR S s rs=>?_⟩⟩;refine⟨_,_,x.2,_,d,y.same s λ_ z=>z,rs.kM (so.same k).aS,u,λw N O t=>q w N ((k.trans s).trans O) (sN t λa h=>?_)⟩;rcases h with h|h|h
 .exact(nw.back (k.trans s) h).aS so.aS
 .exact h.aS so.aS
 .exact h
theorem PY (hu:X.A.units+64<cLine):MtR X "dict.get" (rMt X.K "get"):=by
 rintro f s y H x C v D Q I h rs ⟨B,E,dx,F,d,i,j,e,q⟩
 simp only[mtD,if_true]at e;split at e
 .rename_i es k d0;split at e
  case isFalse=>cases e
  rename_i l;cases e;obtain⟨G,J,rfl,m,n⟩:=Ah j;obtain⟨kk,rfl,rfl,_⟩:=yf l m;obtain⟨a,kvs,rfl,g1,_,g2⟩:=i;cases h;obtain⟨L,M,rfl,o,p⟩:=vals2 rs;have b:=g2.val kk;refine zrn (by omega) I (DGet.k g1) o p λN O r c=>⟨_,H,r,c,q _ H (Same.refl H) ?_⟩;cases g:z0g es (kD kk)with
  |none=>rw[g]at b;rw[show cM kvs kk=Z8 from b];exact n.weak λ_ z=>.inr (.inr z)
  |some P=>rw[g]at b;obtain⟨w,t,u⟩:=b;rw[t];exact u.weak λ_ z=>.inr (.inl z)
 .cases e
theorem PZ (r:Rep X.K H B x dx)(e:mtD "get" dx b=.ok d):tyV X.K "dict" x H:=by
 simp only[mtD,if_true]at e;split at e
 .obtain⟨a,kvs,rfl,g1,_,_⟩:=r;exact .inr (.inr (.inl ⟨rfl,.inl ⟨kvs,g1⟩⟩))
 .cases e
theorem IC {K:Z5}:∀{a:List D} {b:List Str} {f:List V} {g:List Value},iI a=Z9 b->Reps K H B f a->Vals f g->StrsAre g b/\∀s∈b,ZW s=Z7
 | [],b,f,g,e,r,q=>by cases e;have c:=r;subst c;cases q;exact⟨.nil,λ_ h=>nomatch h⟩
 |d::a,b,f,g,e,r,q=>by
  cases d<;>try (cases e;done)
  rename_i z;change(iI a).map (z:: ·)=_ at e;cases c:iI a with
  |none=>rw[c]at e;cases e
  |some j=>
   rw[c]at e;cases e;obtain⟨v,t,rfl,i,k⟩:=r;have ev:=i.1;subst ev;cases q with
   |cons l m=>
    obtain⟨n,rfl⟩:=l;obtain⟨o,p⟩:=IC c k m;refine⟨.cons z n o,λs hs=>?_⟩;rcases(bq.mp hs)with rfl|hs
    .exact i.2
    .exact p s hs
theorem P0 (z:Str)(b:List Str):Txt.join z b=sF z b:=by
 have go:∀(r:List Str) a,(r.foldl (λa p=>a++z.cps++p.cps) a).toList=a.toList++(r.map λp=>z.cps.toList++p.cps.toList).flatten:=by
  intro r
  induction r with
  |nil=>intro a;simp
  |cons p r c=>intro a;rw[List.foldl_cons,c];simp
 cases b with
 |nil=>rfl
 |cons x r=>
  have:=go r x.cps;show(⟨r.foldl (λa p=>a++z.cps++p.cps) x.cps⟩:Str)=⟨(x.cps.toList++(r.map λp=>z.cps.toList++p.cps.toList).flatten).toArray⟩
  congr 1
  rw[<-this]
theorem P1 (d:ZW z=Z7)(h:∀s∈b,ZW s=Z7):ZW (sF z b)=true:=
 sO.mpr λc hc=>by
  have a:c∈zZ z.cps.toList b:=by simpa[sF]using hc
  cases b with
  |nil=>simp[zZ]at a
  |cons x r=>
   simp only[zZ,bu,List.mem_flatten,bz]at a;rcases a with a|⟨l,⟨p,e,rfl⟩,a⟩
   .exact sO.mp (h x bg) c a
   .rcases bu.mp a with a|a
    .exact sO.mp d c a
    .exact sO.mp (h p (bc _ e)) c a
theorem P2:MtR X "str.join" (rMt X.K "join"):=by
 rintro c s o H x p v r Q I g rs ⟨B,w,dx,y,d,f,h,e,q⟩
 simp only[mtD,show("join":String)≠"get" by decide,if_true,if_false]at e;split at e
 .rename_i z A;split at e
  case h_2=>cases e
  rename_i C b;split at e
  case isFalse=>cases e
  rename_i i;cases e;obtain⟨D,rfl,j⟩:=yh h;obtain⟨a,E,rfl,l,rl⟩:=mL j;obtain⟨u,rfl,rfl⟩:=vals1 rs;have ex:=f.1;subst ex;obtain⟨t,rfl⟩:=g;obtain⟨m,n,pl,_⟩:=I.list l;obtain⟨sa,ok⟩:=IC b rl n;refine join_list pl.isList (by simpa using sa) (bj i (by unfold aT;decide)) λF k=>?_;rw[P0];exact⟨.str _,H,I.tok _,⟨_,rfl⟩,q _ H (Same.refl H) ⟨rfl,P1 f.2 ok⟩⟩
 .cases e
theorem P4 (r:Rep X.K H B x dx)(e:mtD "join" dx ds=.ok d):tyV X.K "str" x H:=by
 simp only[mtD,show("join":String)≠"get" by decide,if_true,if_false]at e;split at e
 .have ex:x=.str _:=r.1;subst ex;exact rfl
 .cases e
end
def dE (F:Fm)(H:Hp)(F':Fm)(H':Hp):Prop:=∀a o,H a=Z9 o->F.O a=Z8->H' a=Z9 o/\F'.O a=Z8
theorem dE.refl:dE F H F H:=λ_ _ e o=>⟨e,o⟩
theorem dE.trans (a:dE F H f g)(b:dE f g c d):dE F H c d:=λx o e n=>by obtain⟨h,n1⟩:=a x o e n;exact b x o h n1
theorem dE.same (s:Same H b):dE F H F b:=λa o e n=>⟨s a o e,n⟩
def Run (F F':Fm):Prop:=Same F.H0 F'.H0/\F'.V=F.V/\F'.z=F.z
theorem Run.refl:Run F F:=⟨λ_ _ e=>e,rfl,rfl⟩
theorem Run.trans (a:Run F d)(b:Run d c):Run F c:=⟨λx o e=>b.1 x o (a.1 x o e),b.2.1.trans a.2.1,b.2.2.trans a.2.2⟩
theorem Run.of (h:a.H0=F.H0)(v:a.V=F.V)(z:a.z=F.z):Run F a:=⟨λ_ _ e=>by rw[h];exact e,v,z⟩
def BR (F:Fm):G->Ad->Prop
 |.fr=>λa=>match a with|some a=>F.H0 a=Z8|none=>False
 |.od=>bV F
 |.al=>bV F
 |.nu=>λa=>match a with|some a=>F.H0 a=Z8|none=>False
def vU (K:Z5)(F:Fm)(H:Hp)(D:Ends):Out->Prop
 |.nx cF=>∀σ' H' F',StOk K F' H' σ' cF->Run F F'->dE F H F' H'->D.nx σ' H'
 |.rt g d=>∀v H',(∀a o,F.H0 a=Z9 o->H' a=Z9 o)->Rep K H' (BR F g) v d->D.rt v H'
def tDS (K:Z5)(f:Rho->Res Out):TS:=λD σ H=>∃ρ F out,StOk K F H σ ρ/\f ρ=.ok out/\vU K F H D out
theorem none_of (s:Same H b)(h:b a=Z8):H a=none:=by
 cases e:H a with
 |none=>rfl
 |some o=>rw[s a o e]at h;cases h
theorem BR.run (r:Run F c)(h:BR c g a):BR F g a:=by obtain⟨d,e,f⟩:=r;cases g<;>cases a<;>first|exact h|(exact none_of d h)|(have b:c.V _:=h;rw[e]at b;exact b)|(have b:c.z:=h;rw[f]at b;exact b)
theorem vU.back {K:Z5}{D:Ends}(r:Run F m)(f:dE F H m n)(h:vU K F H D i):vU K m n D i:=by
 cases i with
 |nx p=>exact λj c l so q s=>h j c l so (r.trans q) (f.trans s)
 |rt g d=>exact λv c k t=>h v c (λa o e=>k a o (r.1 a o e)) (t.weak λ_ b=>b.run r)
section
variable {X:Cx}{e:Expr}{st:Stmt}{rest:List Stmt}{fs gs:Rho->Res Out}
theorem P5:PSs X [] (tDS X.K λa=>.ok (.nx a)):=PSs.imp G3 λD b H ⟨a,F,c,so,e,q⟩=>by cases e;exact q b H F so Run.refl dE.refl
theorem P6 (j:PS X st (tDS X.K fs))(k:PSs X rest (tDS X.K gs)):PSs X (st::rest) (tDS X.K λa=>pV (fs a) gs):=
 PSs.imp (G4 j k) λD o H ⟨a,F,b,so,e,q⟩=>by
  have e:pV (fs a) gs=.ok b:=e;cases c:fs a with
  |no=>rw[c]at e;cases e
  |exc x=>rw[c]at e;cases e
  |ok l=>
   rw[c]at e;cases l with
   |nx h=>exact⟨a,F,.nx h,so,c,λm p n i r f=>⟨h,n,b,i,e,q.back r f⟩⟩
   |rt g d=>cases e;exact⟨a,F,.rt g d,so,c,q⟩
theorem Dr (hc:PT X c (eD X.K ft))(f:PSs X A (tDS X.K fs))(g:PSs X h (tDS X.K gs)):PS X (.If c A h pos) (tDS X.K λa=>ft a>>=λk=>if k then fs a else gs a):=
 PS.imp (G5 hc f g) λD j H ⟨a,F,b,so,e,q⟩=>by
  obtain⟨k,i,e⟩:=Res.aA e;refine⟨a,F,k,so,i,λl d=>?_⟩;cases k with
  |true=>exact jH ⟨a,F,b,so.same d,e,q.back Run.refl (dE.same d)⟩
  |false=>exact jG ⟨a,F,b,so.same d,e,q.back Run.refl (dE.same d)⟩
theorem P7 {K:Z5}(so:∀a o,F.H0 a=Z9 o->H a=Z9 o)(e:∀a,H a=Z8->F.V a)(r:Rep K c (BG F H g) v d):Rep K c (BR F (kL g)) v d:=by
 refine r.weak λa b=>?_;cases g with
 |fr=>
  cases a with
  |none=>exact b
  |some a=>exact Same.none so b
 |od=>exact eJ.aS b
 |al=>exact b
 |nu=>
  cases a with
  |none=>exact b.elim id id
  |some a=>exact b.elim (λb=>Same.none so b) λb=>b.2.1
theorem P8 (c:PE X e (tD X.K fa)):PS X (.Return (Z9 e) pos) (tDS X.K λb=>fa b>>=λx=>.ok (.rt (kL x.1) x.2)):=PS.imp (BX c) λD j H ⟨b,F,d,so,e,q⟩=>by obtain⟨x,f,e⟩:=Res.aA e;cases e;exact⟨b,F,x,so,f,λv g h i=>q v g (λa o e=>h a o (so.ext a o e)) (P7 so.ext so.aS i)⟩
theorem Slot.ret {K:Z5}(so:∀a i,F.O a=Z9 i->F.H0 a=Z8/\F.V a)(h:Slot K F H i g v d):Rep K H (BR F (if imm d then .fr else kL g)) v d:=by
 by_cases c:imm d=Z7
 .rw[tw c];exact Rep.aW d c (h.rep λa i e=>(so a i e).2)
 .rw[tx c];cases g with
  |fr=>
   obtain⟨p,e,o,h⟩:=h
   have k:∀a,Bin F a->BR F .fr a:=λa b=>by
    cases a with
    |none=>exact b
    |some a=>exact b.2.1
   rcases h with⟨f,l,rfl,j,r⟩|⟨f,l,rfl,j,r⟩
   .exact⟨p,f,e,.inl ⟨j,(so _ _ o).1⟩,r.weak k⟩
   .exact⟨p,f,e,j,(so _ _ o).1,aZ.same (λ_ _ e=>e) k r⟩
  |od=>exact Rep.weak (λ_ b=>b.aS) h
  |al=>exact h
  |nu=>
   refine Rep.weak (λa b=>?_) h;cases a with
   |none=>exact b
   |some a=>exact b.2.1
theorem z5i {i:Nat}(hN:X.N[i]?=Z9 x)(j:Vis X.env.scope x)(hd:Xv x)(c:(x==("__classdict__":Str))=Z6):
  PS X (.Return (Z9 (.Name x p)) pos) (tDS X.K λb=>match b[i]? with|some (Z9 (g,d))=>.ok (.rt (if imm d then .fr else kL g) d)|_=>.no):=
 PS.imp (BX (wY hN j hd c)) λD m H ⟨b,F,f,so,e,q⟩=>by
  have e:(match b[i]? with|some (Z9 (g,d))=>Res.ok (Out.rt (if imm d then .fr else kL g) d)|_=>.no)=.ok f:=e;cases h:b[i]? with
  |none=>rw[h]at e;cases e
  |some o=>
   rw[h]at e;cases o with
   |none=>cases e
   |some gd=>obtain⟨g,d⟩:=gd;cases e;obtain⟨v,k,l⟩:=so.sl i g d h;exact⟨v,k,q v H so.ext (l.ret λa i e=>⟨(so.own a i e).1,(so.own a i e).2.1⟩)⟩
theorem P9 (hs:kI e=Z6)(c:PE X e (tD X.K fa)):PS X (.Expr e pos) (tDS X.K λa=>fa a>>=λ_=>.ok (.nx a)):=PS.imp (nH c hs) λD d H ⟨a,F,f,so,e,q⟩=>by obtain⟨x,g,e⟩:=Res.aA e;cases e;exact⟨a,F,x,so,g,λv h b i=>q d h F (so.same b) Run.refl (dE.same b)⟩
theorem aZ.aW {K:Z5}:∀{kvs:List (Key×V)} es,cO es=Z7->aZ K H B kvs es->aZ K H B' kvs es
 |kvs,[],_,r=>r
 |kvs,(kd,d)::es,i,r=>by unfold cO at i;rw[db,cg]at i;obtain⟨k,v,t,e,a,ok,h,q⟩:=r;exact⟨k,v,t,e,a,ok,Rep.aW d i.1 h,aZ.aW es i.2 q⟩
theorem StOk.gK {K:Z5}(so:StOk K F H d ρ){a:Ad}(h:nw H a):Bin F a:=by
 cases a with
 |none=>exact h
 |some a=>
  refine⟨?_,Same.none so.ext h,so.aS a h⟩;cases b:F.O a with
  |none=>rfl
  |some j=>obtain⟨_,_,z⟩:=so.own a j b;rcases z with⟨c,z⟩|⟨c,z⟩<;>rw[h]at z<;>cases z
theorem StOk.Ds {K:Z5}(so:StOk K F H c f)(r:Rep K H (Bin F) v d):StOk K (F.drop i) H (c.set i (Z9 v)) (f.set i (Z9 (.nu,d))):=by
 have z:=so.nQ (i:=i) (x:=(.al,d)) (Rep.weak (λ_ b=>Bin.aS b) r);refine⟨z.ext,z.aS,z.own,by rw[cw,cw];exact so.len,λj g h e=>?_⟩;by_cases a:i=j
 .subst a;rw[du]at e;simp only[if_true]at e;split at e
  .rename_i k;cases e;exact⟨v,by rw[du];simp[so.len,k],Rep.weak (λ_ b=>b.drop) r⟩
  .cases e
 .refine z.sl j g h ?_;rw[b9 a]at e ⊢;exact e
def Fm.take (F:Fm)(i:Nat)(p:Addr):Fm:={F with O:=λa=>if a=p then Z9 i else if F.O a=Z9 i then Z8 else F.O a}
theorem dE.drop (s:Same H b):dE F H (F.drop i) b:=λa o e n=>⟨s a o e,Fm.bP n⟩
theorem StOk.setA {K:Z5}(so:StOk K F H Q R)(t:Same H s)(r:Rep K s (BG F H x.1) v x.2):
  ∃f,StOk K f s (Q.set i (Z9 v)) (R.set i (Z9 (z1o x)))/\Run F f/\dE F H f s:=by
 have w:=so.same t;obtain⟨g,d⟩:=x
 have l:z1o (g,d)=z1f (if imm d then .al else Ia g,d)->∃f,StOk K f s (Q.set i (Z9 v)) (R.set i (Z9 (z1o (g,d))))/\Run F f/\dE F H f s:=λe=>by
  rw[e];refine⟨F.drop i,w.nQ ?_,Run.of rfl rfl rfl,dE.drop t⟩;by_cases k:imm d=Z7
  .rw[tw k];exact Rep.aW d k r
  .rw[tx k];cases g with
   |fr=>exact r.weak λ_ b=>nw.aS so.aS b
   |od=>exact r
   |al=>exact r
   |nu=>exact r.weak λ_ b=>b.elim (nw.aS so.aS) Bin.aS
 have A:z1o (g,d)=(.nu,d)->(∀a,BG F H g a->Bin F a)->∃f,StOk K f s (Q.set i (Z9 v)) (R.set i (Z9 (z1o (g,d))))/\Run F f/\dE F H f s:=λe E=>by rw[e];exact⟨F.drop i,w.Ds (Rep.weak E r),Run.of rfl rfl rfl,dE.drop t⟩
 have own:∀p,F.O p=Z8->H p=Z8->F.H0 p=Z8->F.V p->v=.ref p->z1o (g,d)=(.fr,d)->(∀f,(∀a,Bin F a\/nw H a->a≠Z9 p->Bin f a)->f.O p=Z9 i->Slot K f s i .fr v d)->(((∃I,s p=Z9 (.lst I))\/∃kvs,s p=Z9 (.dK kvs)))->
   ∃f,StOk K f s (Q.set i (Z9 v)) (R.set i (Z9 (z1o (g,d))))/\Run F f/\dE F H f s:=λp U c X Y ev es Z J=>by
  have B:∀a,a≠p->(F.take i p).O a=(F.drop i).O a:=λa ha=>by show(if a=p then Z9 i else _)=_;rw[tx ha];rfl
  have P':∀a,H a=Z8->F.O a=none:=λa e=>by
   cases C:F.O a with
   |none=>rfl
   |some j=>obtain⟨_,_,h⟩:=so.own a j C;rcases h with⟨I,h⟩|⟨I,h⟩<;>rw[e]at h<;>cases h
  have y:∀a,Bin F a\/nw H a->a≠Z9 p->Bin (F.take i p) a:=λa b Du=>by
   cases a with
   |none=>exact b.elim id id
   |some a=>have q:a≠p:=λz=>Du (by rw[z]);have E:=b.elim id λb=>⟨P' a b,(λa e=>Same.none so.ext e) a b,so.aS a b⟩;exact⟨by rw[B a q];exact Fm.bP E.1,E.2⟩
  have L:(F.take i p).O p=Z9 i:=by show(if p=p then Z9 i else _)=_;rw[tw rfl]
  refine⟨F.take i p,⟨w.ext,w.aS,λa j e=>?_,by rw[cw,cw];exact so.len,λj g' d' e=>?_⟩,Run.of rfl rfl rfl,λa o e n=>⟨t a o e,?_⟩⟩
  .by_cases q:a=p
   .subst q;exact⟨X,Y,J⟩
   .rw[B a q]at e
    have e':F.O a=Z9 j:=by
     have:(if F.O a=Z9 i then Z8 else F.O a)=Z9 j:=e;split at this
     .cases this
     .exact this
    exact w.own a j e'
  .by_cases hj:i=j
   .subst hj;rw[du]at e;simp only[if_true]at e;split at e
    .rename_i hl;have C:z1o (g,d)=(g',d'):=by simpa using e
     rw[es]at C;cases C;exact⟨v,by rw[du];simp[so.len,hl],Z _ y L⟩
    .cases e
   .rw[b9 hj]at e ⊢;obtain⟨u,h1,S⟩:=so.sl j g' d' e;refine⟨u,h1,?_⟩;cases g' with
    |fr=>
     obtain⟨T,C,o1,h3⟩:=S;refine⟨T,C,?_,?_⟩
     .rw[B T (λz=>by rw[z,U]at o1;cases o1)];show(if F.O T=Z9 i then Z8 else F.O T)=Z9 j;rw[o1,tx (λz=>hj (tz z).symm)]
     .have M:∀a,Bin F a/\¬nw H a->Bin (F.take i p) a:=λa b=>y a (.inl b.1) λz=>b.2 (z▸c);rcases h3 with⟨G,D,e3,e2,r3⟩|⟨G,D,e3,e2,r3⟩
      .exact .inl ⟨G,D,e3,t _ _ e2,Reps.same t M (Reps.there _ r3)⟩
      .exact .inr ⟨G,D,e3,t _ _ e2,aZ.same t M (aZ.there _ r3)⟩
    |od=>exact Rep.same t (λ_ b=>b) S
    |al=>exact Rep.same t (λ_ b=>b) S
    |nu=>exact Rep.same t (λa b=>y a (.inl b.1) λz=>b.2 (z▸c)) (Rep.there _ S)
  .have q:a≠p:=λz=>by rw[z,c]at e;cases e
   rw[B a q];exact Fm.bP n
 have N:∀p,H p=Z8->F.O p=none:=λp c=>by
  cases C:F.O p with
  |none=>rfl
  |some j=>obtain⟨_,_,P⟩:=so.own p j C;rcases P with⟨I,P⟩|⟨I,P⟩<;>rw[c]at P<;>cases P
 by_cases k:imm d=Z7
 .exact l (by show(if imm d then _ else _)=_;rw[tw k];rw[tw k];rfl)
 .cases g with
  |od=>exact l (by delta z1o;simp only[tx k];rfl)
  |al=>exact l (by delta z1o;simp only[tx k];cases d<;>rfl)
  |nu=>exact A (by delta z1o;simp only[tx k]) λa b=>b.elim so.gK id
  |fr=>
   cases d with
   |none=>exact absurd rfl k
   |bool b=>exact absurd rfl k
   |int b=>exact absurd rfl k
   |str b=>exact absurd rfl k
   |tuple D=>exact A (by delta z1o;simp only[tx k]) λa b=>so.gK b
   |list D=>
    by_cases m:imms D=Z7
    .obtain⟨p,G,ev,h,rs⟩:=r;rcases h with⟨h,b⟩|⟨_,b⟩
     .have c:H p=none:=b;exact own p (N p c) c (Same.none so.ext c) (so.aS p c) ev (by delta z1o;simp only[tx k,tw m]) (λf E ho=>⟨p,ev,ho,.inl ⟨G,D,rfl,h,Reps.aW D m rs⟩⟩) (.inl ⟨G,h⟩)
     .exact b.elim
    .exact A (by delta z1o;simp only[tx k,tx m]) λa b=>so.gK b
   |dict es=>
    by_cases m:cO es=Z7
    .obtain⟨p,kvs,ev,h,b,rs⟩:=r;have c:=b;exact own p (N p c) c (Same.none so.ext c) (so.aS p c) ev (by delta z1o;simp only[tx k,tw m]) (λf E ho=>⟨p,ev,ho,.inr ⟨kvs,es,rfl,h,aZ.aW es m rs⟩⟩) (.inr ⟨kvs,h⟩)
    .exact A (by delta z1o;simp only[tx k,tx m]) λa b=>so.gK b
theorem ID {K:Z5}{te:TE}(h:∀a H Q,tD K fa a H Q->te a H Q)(D:Ends)(a:L2.St)(H:Hp)(q:tDS K (λb=>fa b>>=λx=>.ok (.nx (b.set i (Z9 (z1o x))))) D a H):te a H λv c=>D.nx (a.set i (Z9 v)) c:=by obtain⟨b,F,g,so,e,q⟩:=q;obtain⟨x,j,e⟩:=Res.aA e;cases e;refine h a H _ ⟨b,F,x,so,j,λv c k l=>?_⟩;obtain⟨m,d,r,f⟩:=so.setA k l;exact q _ c m d r f
theorem zn6 (hN:X.N.Nodup)(b:X.N[i]?=Z9 x)(c:Loc X.env.scope x)(hf:X.fn x=Z7\/X.env.scope.names.lookup x=Z9 .local)(hs:jk e (Z9 (.Name x px)) pos.line X.env=pure Z6)(d:PE X e (tD X.K fa)):
  PS X (.Assign [.Name x px] e pos) (tDS X.K λa=>fa a>>=λx=>.ok (.nx (a.set i (Z9 (z1o x))))):=
 PS.imp (zd5 hN b c d hs hf) λD f H q=>ID (λ_ _ _ h=>h) D f H q
theorem zqt (j:PG X te (tDG X.K (.tp is)))(k:PE X e (tD X.K fa))(hs:p5 [te] e pos.line X.env=pure Z6)(l:p7 [te] e X.env=pure Z8)(m:(gm [te] X.env).map (·.2)=[qe te X.env]):
  PS X (.Assign [te] e pos) (tDS X.K λf=>fa f>>=λx=>fD (.tp is) x f>>=λd=>.ok (.nx d)):=
 PS.imp (zri k j hs l m) λD y H ⟨f,F,p,so,e,q⟩=>by obtain⟨x,r,e⟩:=Res.aA e;obtain⟨d,s,e⟩:=Res.aA e;cases e;refine⟨f,F,x,so,r,λv t i u=>⟨f,F,x,d,so.same i,u.weak λ_ b=>BI.of so.aS b,s,λg w h c=>?_⟩⟩;exact q g t w h (Run.of c.h0 c.v c.z) λa o e n=>⟨i a o e,c.o a n⟩
theorem Qa {K:Z5}(so:StOk K F H i j)(h:okIn y=Z7)(r:Rep K c (BG F H y.1) u y.2):Rep K c (Bin F) u y.2:=by
 obtain⟨g,d⟩:=y;rcases fi.mp h with e|f
 .exact Rep.aW d e r
 rcases fi.mp f with h|h
 .cases eq_of_beq h;exact Rep.weak (λa b=>so.gK b) r
 .cases eq_of_beq h;exact Rep.weak (λa b=>b.elim so.gK id) r
theorem StOk.mutate {K:Z5}(so:StOk K F H M A)(B:F.O p=Z9 i)(s:M[i]?=Z9 (Z9 (.ref p)))(C:(∃m,t=.lst m)\/∃kvs,t=.dK kvs)
  (hs:Slot K F (upd H p t) i .fr (.ref p) U):StOk K F (upd H p t) M ((A.set i (Z9 (.fr,U))).map pT)/\dE F H F (upd H p t):=by
 obtain⟨h0,X,u⟩:=so.own p i B;have q:∀a,F.O a=Z8->a≠p:=λa e z=>by rw[z,B]at e;cases e
 have k:∀a o,H a=Z9 o->Fix o->a≠p:=λa o e f z=>by subst z;rcases u with⟨m,h⟩|⟨m,h⟩<;>rw[e]at h<;>cases h<;>exact f
 refine⟨⟨λa o e=>?_,λa e=>?_,λa j e=>?_,by rw[ae,cw];exact so.len,λj g d e=>?_⟩,(λa o e n=>⟨by rw[aG (q a n)];exact e,n⟩)⟩
 .have c:a≠p:=λz=>by rw[z,h0]at e;cases e
  rw[aG c];exact so.ext a o e
 .by_cases c:a=p
  .subst c;exact X
  .rw[aG c]at e;exact so.aS a e
 .obtain⟨Y,Z,x3⟩:=so.own a j e;refine⟨Y,Z,?_⟩;by_cases c:a=p
  .subst c;rw[bF];rcases C with⟨m,rfl⟩|⟨m,rfl⟩
   .exact .inl ⟨m,rfl⟩
   .exact .inr ⟨m,rfl⟩
  .rw[aG c];exact x3
 .rw[ao]at e;by_cases N:i=j
  .subst N;have hl:i<A.length:=by rw[<-so.len];exact(ax.mp s).1
   rw[du]at e;simp only[if_true,hl]at e;cases(by simpa using e);exact⟨_,s,hs⟩
  .rw[b9 N]at e;cases D:A[j]? with
   |none=>rw[D]at e;cases e
   |some sl=>
    rw[D]at e;have l:pT sl=Z9 (g,d):=by simpa using e
    cases sl with
    |none=>cases l
    |some gd=>
     obtain⟨P,d0⟩:=gd;obtain⟨v,h1,y⟩:=so.sl j P d0 D;refine⟨v,h1,?_⟩;cases P with
     |fr=>
      cases l;obtain⟨Q,e4,R,h3⟩:=y;have w:Q≠p:=λz=>by rw[z,B]at R;simp_all
      have S:∀a o,H a=Z9 o->(Bin F (Z9 a)\/Fix o)->upd H p t a=Z9 o:=λa o e b=>by have:a≠p:=b.elim (λb=>q a b.1) λf=>k a o e f;rw[aG this];exact e
      refine⟨Q,e4,R,?_⟩;rcases h3 with⟨E,x,I,J,r⟩|⟨E,x,I,J,r⟩
      .exact .inl ⟨E,x,I,by rw[aG w];exact J,Reps.keep S (λ_ z=>z) x r⟩
      .exact .inr ⟨E,x,I,by rw[aG w];exact J,aZ.keep S (λ_ z=>z) x r⟩
     |od=>cases l;exact Rep.keep (λa o e b=>by have:a≠p:=b.elim (λb z=>by have T:F.H0 a≠Z8/\F.V a:=b;rw[z]at T;exact T.1 h0) λf=>k a o e f;rw[aG this];exact e) (λ_ z=>z) _ y
     |nu=>cases l;exact Rep.keep (λa o e b=>by have:a≠p:=b.elim (λb=>q a b.1) λf=>k a o e f;rw[aG this];exact e) (λ_ z=>z) _ y
     |al=>
      change(if imm d0 then Z9 (G.al,d0)else Z8)=_ at l;split at l
      .rename_i L;cases l;exact Rep.hU (λa o e f=>by rw[aG (k a o e f)];exact e) _ L y
      .cases l
theorem Qb {K:Z5}(so:StOk K F H c f)(e:f[i]?=Z9 (Z9 (.fr,d))):∃p,c[i]?=Z9 (Z9 (.ref p))/\F.O p=Z9 i/\((∃a b,d=.list b/\H p=Z9 (.lst a)/\Reps K H (Bin F) a b)\/(∃kvs es,d=.dict es/\H p=Z9 (.dK kvs)/\aZ K H (Bin F) kvs es)):=by obtain⟨v,g,p,rfl,o,h⟩:=so.sl i .fr d e;exact⟨p,g,o,h⟩
def Dv (m:String)(i:Nat)(fs:Rho->Res (List GD)):Rho->Res Out:=λρ=>fs ρ>>=λys=>match ρ[i]? with
 |some (Z9 (.fr,.list xs))=>nI m xs ys>>=λxW=>.ok (.nx ((ρ.set i (Z9 (.fr,.list xW))).map pT))
 |_=>.no
theorem zhk {fs:Rho->Res (List GD)}(hN:X.N[i]?=Z9 x)(C:Vis X.env.scope x)(hd:Xv x)(l:(x==("__classdict__":Str))=Z6)(E:PA X (e::es) (tDA X.K fs))(g:((e::es).all fun e=>!isStar e)=Z7)(G:(e::es).length<20)(d:(I.endLine==J.line)=Z7):
  PS X (.Expr (.Call (.Attribute (.Name x p) "append" I) (e::es) [] J) pos) (tDS X.K (Dv "append" i fs)):=by
 have c:=g;rw[db,cg]at c;refine PS.imp (nH (zl6 PySem.F.plainAttrs_list PySem.F.slot_list_append PySem.F.type_list_append Cj (wY hN C hd l) E rfl (z9u g G) d (eQ (by simpa using c.1)) (mJ c.2)) rfl) λD L H M=>?_;obtain⟨P,F,Q,so,e,q⟩:=M;obtain⟨R,S,e⟩:=Res.aA e;split at e
 .rename_i T hr;obtain⟨U,f,e⟩:=Res.aA e;cases e;obtain⟨pa,v,m,h⟩:=Qb so hr;rcases h with⟨j,ds,n,w,r⟩|⟨_,_,n,_⟩
  .cases n;refine⟨_,v,.inl ⟨rfl,j,SqL.of w⟩,P,F,R,so,S,λus V k rs=>?_⟩;simp only[nI,if_true]at f;split at f
   .rename_i y;split at f
    case isFalse=>cases f
    rename_i hc;cases f;rw[au,decide_eq_true_iff]at hc;obtain⟨u,rfl,W⟩:=rs.one;have A:=k _ _ w;refine⟨pa,j,u,rfl,rfl,A,qC (by rw[r.length];omega),?_⟩
    have Y:Reps X.K (upd V pa (.lst (j++[u]))) (Bin F) (j++[u]) (T++[y.2]):=by
     refine Reps.keep (λa o e b=>?_) (λ_ z=>z) _ (Reps.append (r.same k λ_ z=>z) ⟨u,[],rfl,Qa so hc.1 W,rfl⟩)
     have s:a≠pa:=by
      intro z;subst z;rcases b with b|b
      .have B:F.O a=none:=b.1;rw[m]at B;cases B
      .rw[A]at e;cases e;exact b
     rw[aG s];exact e
    obtain⟨t,Z⟩:=(so.same k).mutate m v (.inl ⟨_,rfl⟩) ⟨pa,rfl,m,.inl ⟨_,_,rfl,bF,Y⟩⟩;exact q L _ F t Run.refl ((dE.same k).trans Z)
   .cases f
  .cases n
 .cases e
end
theorem Dw (k c:Key):eqK (kD c) (kD k)=decide (c=k):=by
 cases c<;>cases k
 .rename_i a b;show(a==b)=_;rw[kq,decide_eq_decide];exact⟨λh=>by rw[h],λh=>Sum.inl.inj h⟩
 .rfl
 .rfl
 .rename_i a b;show decide (a=b)=_;rw[decide_eq_decide];exact⟨λh=>by rw[h],λh=>Sum.inr.inj h⟩
theorem aZ.any {K:Z5}(k:Key):∀{kvs:List (Key×V)} {es:bA},aZ K H B kvs es->(es.any λe=>eqK e.1 (kD k))=kvs.any λa=>decide (a.1=k)
 |kvs,[],r=>by have e:kvs=[]:=r;subst e;rfl
 |kvs,(kd,d)::es,r=>by obtain⟨c,v,t,e,b,_,_,q⟩:=r;subst e b;rw[jr,jr,q.any k,Dw]
theorem aZ.nT {K:Z5}(k:Key)(h:Rep K H B v d):∀{kvs:List (Key×V)} {es:bA},aZ K H B kvs es->aZ K H B (kvs.map λa=>if a.1=k then(a.1,v)else a) (es.map λe=>if eqK e.1 (kD k)then(e.1,d)else e)
 |kvs,[],r=>by have e:kvs=[]:=r;subst e;exact rfl
 |kvs,(kd,d0)::es,r=>by
  obtain⟨b,f,t,e,g,ok,h0,q⟩:=r;subst e g;rw[br,br];have c:=q.nT k h;by_cases z:b=k
  .subst z;rw[tw rfl,tw (by rw[Dw];simp)];exact⟨b,v,_,rfl,rfl,ok,h,c⟩
  .rw[tx z,tx (by rw[Dw];simpa using z)];exact⟨b,f,_,rfl,rfl,ok,h0,c⟩
theorem aZ.app {K:Z5}(ok:keyOk k)(h:Rep K H B v d):∀{kvs:List (Key×V)} {es:bA},aZ K H B kvs es->aZ K H B (kvs++[(k,v)]) (es++[(kD k,d)])
 |kvs,[],r=>by have e:kvs=[]:=r;subst e;exact⟨k,v,[],rfl,rfl,ok,h,rfl⟩
 |kvs,(kd,d0)::es,r=>by obtain⟨b,c,t,e,f,a,h0,q⟩:=r;subst e f;exact⟨b,c,_,rfl,rfl,a,h0,q.app ok h⟩
theorem aZ.put {K:Z5}(ok:keyOk k)(h:Rep K H B v d){es:bA}(r:aZ K H B kvs es):aZ K H B (putK kvs k v) (dput es (kD k) d):=by
 unfold putK dput;rw[r.any k];split
 .exact r.nT k h
 .exact r.app ok h
def yi (td ty tv:TE):TS:=λD σ H=>tv σ H λv H1=>td σ H1 λx H2=>ty σ H2 λy H3=>(∃a H4,x=.ref a/\DPut H3 a y v H4/\D.nx σ H4)\/HJ x y v H3 λH4=>D.nx σ H4
theorem Qc (hu:X.A.units+1<cLine)(p:PE X o q)(t:PE X i ty)(w:PE X value tv)(hs:jk value (Z9 (.Subscript o i d)) pos.line X.env=pure Z6):PS X (.Assign [.Subscript o i d] value pos) (yi q ty tv):=by
 intro b s c H D I h;refine wpAny_Assign_Subscript (aM (w b s c H _ I h) λr z ⟨v,B,C,k,E⟩=>aM (p b z c B _ C E) λu F ⟨x,G,J,l,K⟩=>aM (t b F c G _ J K) ?_) hs
 rintro L M ⟨y,N,m,n,e⟩
 rcases e with⟨a,f,ex,g,e⟩|e
 .subst ex;obtain rfl:u=ZS a:=l;exact zeb hu m g n k λO j=>⟨c,f,j,e⟩
 .exact aM (set_list b M c N x y v u L r _ m l n k e) λ_ O ⟨f,j,P⟩=>⟨c,f,j,P⟩
def tDF (K:Z5)(f:Rho->Res (G×List D×Rho)):TI:=λσ H R=>∃ρ F w,StOk K F H σ ρ/\f ρ=.ok w/\∀J B H' F',Same H H'->Run F F'->dE F H F' H'->StOk K F' H' σ w.2.2->(∀a,B (Z9 a)->F'.O a=Z8)->(∀a,B a->BI F' w.1 a)->Walk K J B H' w.2.1->R J H'
theorem Dx {K:Z5}(so:StOk K F H i k){a:Addr}(f:g≠.al)(h:BG F H g (Z9 a)):F.O a=none:=by
 cases d:F.O a with
 |none=>rfl
 |some j=>
  obtain⟨h0,_,b⟩:=so.own a j d;cases g with
  |fr=>have c:=h;rcases b with⟨e,b⟩|⟨e,b⟩<;>rw[c]at b<;>cases b
  |od=>exact absurd h0 h.1
  |al=>exact absurd rfl f
  |nu=>
   rcases h with h|h
   .have c:H a=none:=h;rcases b with⟨e,b⟩|⟨e,b⟩<;>rw[c]at b<;>cases b
   .have c:F.O a=none:=h.1;rw[c]at d;cases d
theorem IE (h:PI X i e (tDW X.K j)):PI X i e (tDF X.K λc=>j c>>=λw=>if w.1==.al then .no else .ok (w.1,w.2,c)):=
 PI.imp h λo H R ⟨c,F,w,so,e,q⟩=>by
  obtain⟨k,l,e⟩:=Res.aA e;refine⟨c,F,k,so,l,λJ B m d g n=>?_⟩;split at e
  .cases e
  .rename_i f;cases e;exact q J B m F d Run.refl (dE.same d) (so.same d) (λa b=>Dx so (λz=>f (by rw[z];rfl)) (g _ b).1) (λa b=>BI.of so.aS (g a b).1) n
theorem StOk.giveUp {K:Z5}(so:StOk K F H a b)(e:b[i]?=Z9 (Z9 (.fr,d))):StOk K (F.drop i) H a (b.set i (Z9 (.al,d))):=by
 obtain⟨v,c,g⟩:=so.sl i .fr d e;have:=so.nQ (i:=i) (x:=(.al,d)) (g.rep so.jK)
 have es:a.set i (Z9 v)=a:=by
  apply gg;intro j;by_cases f:i=j
  .subst f;rw[du];simp only[if_true,(ax.mp c).1];exact c.symm
  .rw[b9 f]
 rw[es]at this;exact this
theorem Qd (hN:X.N[i]?=Z9 x)(o:Vis X.env.scope x)(hd:Xv x)(h:(x==("__classdict__":Str))=Z6):PI X T (.Name x pos) (tDF X.K (z0 i)):=by
 rintro c s t H R I ⟨U,F,w,so,e,q⟩
 unfold z0 at e;split at e
 .rename_i d hr;obtain⟨W,z,e⟩:=Res.aA e;cases e;obtain⟨v,A,C⟩:=so.sl i .fr d hr;refine aM (wY hN o hd h c s t H (λu f=>u=v/\f=H) I ⟨v,A,rfl,rfl⟩) λu Y D=>?_;obtain⟨y,f,E,G,g,L⟩:=D;subst g L
  let B:Ad->Prop:=λa=>match a with|some a=>(F.drop i).O a=Z8/\F.V a|none=>False
  have M:Rep X.K f B y d:=by
   obtain⟨p,g,l,P⟩:=C
   have m:∀a,Bin F a->B a:=λa b=>by
    cases a with
    |none=>exact b
    |some a=>exact⟨Fm.bP b.1,b.2.2⟩
   have n:B (Z9 p):=⟨by show(if F.O p=Z9 i then Z8 else F.O p)=Z8;rw[tw l],so.jK p i l⟩;rcases P with⟨j,Q,rfl,k,r⟩|⟨j,Q,rfl,k,r⟩
   .exact⟨p,j,g,.inl ⟨k,n⟩,r.weak m⟩
   .exact⟨p,j,g,k,n,aZ.same (λ_ _ e=>e) m r⟩
  refine z37 E G M z λJ S=>q J B f (F.drop i) (Same.refl _) (Run.of rfl rfl rfl) (dE.drop (Same.refl _)) (so.giveUp hr) (λa b=>b.1) (λa b=>?_) S;cases a with
  |none=>exact b.elim
  |some a=>exact b.2
 .cases e
def Fm.nU (F:Fm)(H:Hp):Fm:={F with O:=λa=>match H a with|some (.dK _)=>F.O a|_=>Z8}
theorem Fm.iJ {F:Fm}{a:Addr}(h:F.O a=Z8):(F.nU H).O a=none:=by
 unfold Fm.nU
 dsimp only
 split<;>first|exact h|rfl
theorem StOk.nU {K:Z5}(so:StOk K F H q l):StOk K (F.nU H) H q (l.map CL) where
 ext:=so.ext
 aS:=so.aS
 own:=λa i e=>by
  have c:F.O a=Z9 i:=by
   unfold Fm.nU at e
   dsimp only at e
   split at e
   .exact e
   .cases e
  exact so.own a i c
 len:=by rw[ae];exact so.len
 sl:=λi g d e=>by
  rw[ao]at e;cases h:l[i]? with
  |none=>rw[h]at e;cases e
  |some o=>
   rw[h]at e;have c:CL o=Z9 (g,d):=by simpa using e
   cases o with
   |none=>cases c
   |some gd=>
    obtain⟨m,d0⟩:=gd;obtain⟨v,s,f⟩:=so.sl i m d0 h;refine⟨v,s,?_⟩
    have n:∀a,Bin F a->Bin (F.nU H) a:=λa b=>by
     cases a with
     |none=>exact b
     |some a=>exact⟨Fm.iJ b.1,b.2.1,b.2.2⟩
    cases m with
    |od=>cases c;exact f
    |al=>cases c;exact f
    |nu=>cases c;exact Rep.weak n f
    |fr=>
     obtain⟨p,ev,t,u⟩:=id f;rcases u with⟨y,w,rfl,j,r⟩|⟨kvs,es,rfl,j,r⟩
     .have k:Z9 (G.al,PyData.list w)=Z9 (g,d):=c;cases k;have x:=Slot.rep so.jK f;exact x
     .have k:Z9 (G.fr,PyData.dict es)=Z9 (g,d):=c;cases k;refine⟨p,ev,?_,.inr ⟨kvs,es,rfl,j,aZ.same (λ_ _ z=>z) n r⟩⟩;unfold Fm.nU
      dsimp only
      rw[j];exact t
theorem Dy (A:PE X e (tD X.K fa)):PI X tg e (tDF X.K λk=>fa k>>=λx=>nJ x k):=by
 rintro j s C H R I ⟨k,F,w,so,c,q⟩
 obtain⟨⟨g,d⟩,D,c⟩:=Res.aA c;unfold nJ at c
 dsimp only at c
 split at c
 .rename_i l;split at c
  .rename_i E;cases c;refine aM (A j s C H (λv f=>Same H f/\Rep X.K f (BG F H g) v (.list l)) I ⟨k,F,_,so,D,λv f u m=>⟨u,m⟩⟩) λv u G=>?_;obtain⟨y,f,L,M,i,m⟩:=G
   let B:Ad->Prop:=λa=>match a with|some a=>(F.nU f).O a=Z8/\F.V a|none=>F.z
   have t:Rep X.K f B y (.list l):=by
    obtain⟨p,N,P,h,r⟩:=m;refine⟨p,N,P,?_,Reps.aW l E r⟩;rcases h with⟨h,b⟩|⟨h,b⟩
    .refine .inl ⟨h,?_,(BG.aS so.aS b:bV F (Z9 p))⟩;unfold Fm.nU
     dsimp only
     rw[h]
    .exact .inr ⟨h,(BG.aS so.aS b:bV F Z8)⟩
   refine z37 L M t rfl λJ Q=>q J B f (F.nU f) i (Run.of rfl rfl rfl) (λa o e n=>⟨i a o e,Fm.iJ n⟩) ((so.same i).nU) (λa b=>b.1) (λa b=>?_) Q;cases a with
   |none=>exact b
   |some a=>exact b.2
  .cases c
 .cases c
theorem PI.IF {k:Rho->Bool}(hf:PI X c e (tDF X.K f))(i:PI X c e (tDF X.K g)):PI X c e (tDF X.K λb=>if k b then f b else g b):=by
 rintro a s d H R I ⟨b,F,w,so,e,q⟩
 dsimp only at e
 cases h:k b with
 |true=>exact hf a s d H R I ⟨b,F,w,so,by rw[tw h]at e;exact e,q⟩
 |false=>exact i a s d H R I ⟨b,F,w,so,by rw[tx (h▸jx)]at e;exact e,q⟩
theorem zv4 (hp:gc (model X.prog X.w) X.A X.env X.xe)(hc:X.calm=Z7)(L:PI X tg iter (tDF X.K fw))(hg:PG X tg (tDG X.K t))(hb:PSs X M (tDS X.K fs))(hs:∀x,gf iter X.env x=pure x):
  PS X (.For tg iter M [] pos) (tDS X.K λU=>fw U>>=λw=>dU (λx E=>fD t (gJ x w.1,x) E>>=λc=>fs c) w.2.1 w.2.2):=
 PS.imp (zaj hp hc L hg hb hs) λD σ H ⟨U,F,Y,so,e,q⟩=>by
  obtain⟨w,e1,e⟩:=Res.aA e;refine⟨U,F,w,so,e1,λJ B H1 k s1 r1 f1 N Qe Qf wk=>?_⟩;have q1:=q.back r1 f1;generalize hf:(λx E=>fD t (gJ x w.1,x) E>>=λc=>fs c)=f at e
  have kp:∀{l:Fm} {r:Hp},dE k H1 l r->Kp B H1 r:=λ{l r} fr a o e b=>by
   have hO:k.O a=none:=by
    rcases b with b|b
    .exact Qe a b
    .cases h:k.O a with
     |none=>rfl
     |some j=>obtain⟨_,_,P⟩:=N.own a j h;rcases P with⟨xs,P⟩|⟨xs,P⟩<;>rw[e]at P<;>cases P<;>exact b.elim
   exact(fr a o e hO).1
  let W:Nat->Nat->L2.St->Hp->Prop:=λi m G r=>m=w.2.1.length-i/\i<=w.2.1.length/\∃c l,StOk X.K l r G c/\Run k l/\dE k H1 l r/\dU f (w.2.1.drop i) c=.ok Y
  refine⟨W,⟨_,rfl,c9 _,w.2.2,k,N,Run.refl,dE.refl,e⟩,?_⟩
  rintro i m G r ⟨rfl,Dz,c,l,Q,I,R,h⟩
  by_cases s:i<w.2.1.length
  .refine .inr ⟨wk.go r (kp R) i s,W (i+1) (w.2.1.length-(i+1)),λσ' H' p=>⟨_,by omega,p⟩,λx H3 y=>?_⟩;obtain⟨s3,d,hd,rx⟩:=wk.gY r (kp R) i x H3 s y
   have DA:w.2.1.drop i=d::w.2.1.drop (i+1):=by
    rw[g8 s];have:w.2.1[i]=d:=by rw[ac s]at hd;simp_all
    rw[this]
   rw[DA]at h;simp only[dU]at h
   have Dp:Rep X.K H3 (BI l (gJ d w.1)) x d:=by
    have Qg:∀g a,BI k g a->BI l g a:=λg a b=>by cases g<;>cases a<;>first|exact b|(have C:k.V _:=b;rw[<-I.2.1]at C;exact C)|(have C:k.z:=b;rw[<-I.2.2]at C;exact C)|(have C:k.H0 _≠Z8/\k.V _:=b;exact⟨λz=>C.1 (none_of I.1 z),by rw[I.2.1];exact C.2⟩)
    unfold gJ;by_cases L:imm d=Z7
    .rw[tw L];exact Rep.aW d L rx
    .rw[tx L];exact rx.weak λa b=>Qg _ _ (Qf a b)
   cases T:f d c with
   |no=>rw[T]at h;cases h
   |exc z=>rw[T]at h;cases h
   |ok o1=>
    obtain⟨S,e4,e5⟩:=Res.aA (by rw[<-T,<-hf]);rw[T]at h;refine⟨c,l,(gJ d w.1,d),S,Q.same s3,Dp,e4,λiH F4 Aj u=>⟨S,F4,o1,Aj,e5,?_⟩⟩;have r4:=I.trans (Run.of u.h0 u.v u.z);have f4:=R.trans λa o e n=>⟨s3 a o e,u.o a n⟩;cases o1 with
    |nx Qh=>exact λσ' H' F' Qi r' f'=>⟨rfl,s,Qh,F',Qi,r4.trans r',f4.trans f',h⟩
    |rt g d=>cases h;exact(q1.back r4 f4:vU X.K F4 H3 D (.rt g d))
  .have pB:i=w.2.1.length:=by omega
   subst pB;rw[m5]at h;cases h;exact .inl ⟨wk.stop r (kp R),q1 G r l Q I R⟩
theorem Qj (E:gc (model X.prog X.w) X.A X.env X.xe)(hc:PT X c (eD X.K ft))(G:PSs X j (tDS X.K fs)):PS X (.While c j [] pos) (tDS X.K (xV ft fs n)):=
 PS.imp (G7 E hc G) λD Q H ⟨I,F,o,so,e,q⟩=>by
  let W:Nat->L2.St->Hp->Prop:=λm h r=>∃a f,StOk X.K f r h a/\Run F f/\dE F H f r/\xV ft fs m a=.ok o
  refine⟨W,⟨n,I,F,so,Run.refl,dE.refl,e⟩,?_⟩
  rintro m h r ⟨a,f,i,s,J,b⟩
  cases m with
  |zero=>cases b
  |succ m=>
   obtain⟨k,L,b⟩:=Res.aA b;refine⟨a,f,k,i,L,λB t=>?_⟩;have u:=J.trans (dE.same t);cases k with
   |false=>cases b;exact jG (q h B f (i.same t) s u)
   |true=>
    refine jH ⟨W m,λv M p=>⟨m,iu m,p⟩,?_⟩;cases l:fs a with
    |no=>rw[l]at b;cases b
    |exc z=>rw[l]at b;cases b
    |ok C=>
     rw[l]at b;refine⟨a,f,C,i.same t,l,?_⟩;cases C with
     |nx x=>exact λv M N y O P=>⟨x,N,y,s.trans O,u.trans P,b⟩
     |rt g d=>cases b;exact(q.back s u:vU X.K f B D (.rt g d))
def rAgg (K:Z5)(f:String):List V->Hp->VK->Prop:=λxs H Q=>∃B x dx l ys d,xs=[x]/\Rep K H B x dx/\z55 dx=.ok (l,ys)/\aggD f l ys=.ok d/\∀w H',Same H H'->Rep K H' (λa=>nw H a\/(imms ys=Z6/\B a)) w d->Q w H'
theorem Ak {K:Z5}(r:Rep K H B x dx)(e:z55 dx=.ok (l,c)):∃a b,x=.ref a/\(if l then SqL K H a b else dD K H a b)/\Reps K H B b c:=by
 cases dx<;>try (cases e;done)
 .cases e;obtain⟨a,b,rfl,h,q⟩:=mL r;exact⟨a,b,rfl,h,q⟩
 .cases e;obtain⟨a,b,rfl,h,q⟩:=r;exact⟨a,b,rfl,h,q⟩
theorem Reps.nV {K:Z5}(r:Reps K H B c b):Reps K H (λa=>nw H a\/(imms b=Z6/\B a)) c b:=by
 cases d:imms b with
 |true=>exact Reps.aW b d r
 |false=>exact r.weak λ_ z=>.inr ⟨rfl,z⟩
section
variable {X:Cx}{e:Expr}{fa:Rho->Res GD}
theorem zit (so:StOk X.K F H l j)(e:((fa j>>=fun x=>z55 x.2>>=fun p=>Res.ok (x.1,p))>>=fun w=>aggD f w.2.1 w.2.2>>=fun d=>Res.ok ((gJ d (if imms w.2.2 then .fr else agG w.1),d):GD))=.ok z)(q:∀v g,Same H g->Rep X.K g (BG F H z.1) v z.2->Q v g):
  mX (rAgg X.K f) (oY (tD X.K fa) fF) l H Q:=by
 obtain⟨w,b,e⟩:=Res.aA e;obtain⟨x,m,b⟩:=Res.aA b;obtain⟨p,n,b⟩:=Res.aA b;cases b;obtain⟨d,o,e⟩:=Res.aA e;cases e;refine⟨j,F,x,so,m,λv A c r=>⟨_,v,x.2,p.1,p.2,d,rfl,r,n,o,λs t u i=>q s t (c.trans u) (sN i λa h=>?_)⟩⟩;cases y:imms p.2 with
 |true=>
  rcases h with h|⟨h,_⟩
  .exact nw.back c h
  .rw[y]at h;cases h
 |false=>
  have al:bV F a:=by
   rcases h with h|⟨_,h⟩
   .exact(nw.back c h).aS so.aS
   .exact h.aS so.aS
  cases k:x.1 with
  |fr=>
   rcases h with h|⟨_,h⟩
   .exact nw.back c h
   .rw[k]at h;exact h
  |od=>exact al
  |al=>exact al
  |nu=>
   rcases h with h|⟨_,h⟩
   .exact .inl (nw.back c h)
   .rw[k]at h;exact h
theorem Qk:CallR X (.type "list") (rAgg X.K "list"):=by
 refine CallR.imp Ox λi H Q h=>?_;obtain⟨B,x,dx,l,j,d,rfl,r,e,f,q⟩:=h;obtain⟨a,b,rfl,h,rs⟩:=Ak r e;cases f
 have g:SqL X.K H a b\/dD X.K H a b:=by
  cases l with
  |true=>exact .inl h
  |false=>exact .inr h
 refine⟨a,b,rfl,g,λp c=>q _ _ (Same.upd c) (sP c rs.nV (λ_ z=>z) (.inl c))⟩
theorem Ql:CallR X (.type "tuple") (rAgg X.K "tuple"):=by
 refine CallR.imp Oy λg H Q h=>?_;obtain⟨B,x,dx,l,i,d,rfl,r,e,f,q⟩:=h;obtain⟨a,b,rfl,h,rs⟩:=Ak r e;cases f;refine⟨a,b,rfl,?_⟩;cases l with
 |true=>exact .inl ⟨h,λp c=>q _ _ (Same.upd c) (Ic c rs.nV λ_ z=>z)⟩
 |false=>exact .inr ⟨h,q _ H (Same.refl H) ⟨a,b,rfl,h,rs.nV⟩⟩
theorem zj7 (hc:CallR X (.type f) (rAgg X.K f))(hm:X.mg x=Z8)(c:dk x=Z9 (.type f))(hs:isStar y=Z6)(g:PE X y (tD X.K fa))(h:Gl X x)(hn:x≠"__name__")(a:Xv x):
  PE X (.Call (.Name x p) [y] [] pos) (tD X.K λb=>(fa b>>=λx=>z55 x.2>>=λp=>Res.ok (x.1,p))>>=λw=>aggD f w.2.1 w.2.2>>=λd=>.ok (gJ d (if imms w.2.2 then .fr else agG w.1),d)):=
 PE.imp (zY hc hm c (eU g lD hs) (by simp[hs]) h hn a) λi H Q ⟨b,F,z,so,e,q⟩=>zit so e q
theorem zpg (hc:CallR X (.builtin f) (rAgg X.K f))(hm:X.mg x=Z8)(c:dk x=Z9 (.builtin f))(hs:isStar y=Z6)(g:PE X y (tD X.K fa))(h:Gl X x)(hn:x≠"__name__")(a:Xv x):
  PE X (.Call (.Name x p) [y] [] pos) (tD X.K λb=>(fa b>>=λx=>z55 x.2>>=λp=>Res.ok (x.1,p))>>=λw=>aggD f w.2.1 w.2.2>>=λd=>.ok (gJ d (if imms w.2.2 then .fr else agG w.1),d)):=
 PE.imp (zX hc hm c (eU g lD hs) (by simp[hs]) h hn a) λi H Q ⟨b,F,z,so,e,q⟩=>zit so e q
end
structure NoKeys (T id:String):Prop where
 own:PySem.Slot T "__getattribute__" id
 entry:entryFor table id=some Builtin.«object.__getattribute__»
 two:∀a b:Value,argsOk id {pos:=[a,b]}
 rest:sr (.type T) "__getattr__"=pure Z8
 miss:∀(a:Addr) (xs:Array Value) (k:Nat) (sl:Array (Option Value)) (u:Tok),Meets (Builtin.«object.__getattribute__» {pos:=[.ref a,.str "keys" u]}) λA R s=>s.heap.get? a=some {cls:=.type T,data:=.seq xs k,slots:=sl}/\raisesAttr (.ref a) "keys" A R s
theorem Qm:NoKeys "list" "list.__getattribute__" where
 own:=F.slot_list_getattribute
 entry:=am_entry_list_getattribute
 two:=F.args_list_getattribute_2
 rest:=am_list_getattr_none
 miss:=λa b k sl u=>meets_getattribute_miss_list a b k sl "keys" u (by rw[typeLookup_type,builtinLookup_eq_fast];kernel_rfl) dc (by size_fits)
theorem Qn:NoKeys "tuple" "tuple.__getattribute__" where
 own:=F.slot_tuple_getattribute
 entry:=am_entry_tuple_getattribute
 two:=F.args_tuple_getattribute_2
 rest:=am_tuple_getattr_none
 miss:=λa b k sl u=>meets_getattribute_miss_tuple a b k sl "keys" u (by rw[typeLookup_type];kernel_rfl) dc (by size_fits)
theorem NoKeys.ask {T id:String}(N:NoKeys T id){prog:cu}{w:World}{A:gn}{E:Value->bb->Prop}{s:bb}{a:Addr}{o:Obj}{i:Array Value}{k:Nat}{Q:Option Value->bb->Prop}
  (j:s.heap.get? a=Z9 o) (hc:o.cls=.type T) (d:o.data=.seq i k) (hd:o.dict=Z8) (m:A.handled=Z8)
  (h:∀l n e,p9 s.heap l e "AttributeError"->Q Z8 {s with heap:=l,toks:=n}):
  wpAny (model prog w) A (qw (.ref a) "keys") Q E s:=by
 cases o;cases hc;cases d;cases hd;cases s;rename_i b heap f c toks os;have ty:∀t,(⟨heap,f,c,t,os⟩:bb).TypeIs (.ref a) T:=λt=>⟨_,j,rfl⟩;have p:=sub_AttributeError;have n1:=N.own.lookup;have n2:=N.own.bind (.ref a);have n3:=N.rest
 delta qw getAttrBy? getAttrBy
 repeat' (first|assumption|exact ty _|(apply tf N.own (ty _) N.entry (N.two _ _) (N.miss a i k b _))|wp_step)
 refine⟨j,m,λq r ex nx=>?_⟩;obtain⟨u,v,there⟩:=nx.there;have g:=λt=>h _ t _ nx.of
 dsimp only[wants]
 delta getattributeRaised
 repeat' (first|assumption|apply g|wp_step)
theorem Qo
 (d:s.heap.get? a=Z9 o) (hc:o.cls=.type "list") (b:o.data=.seq i k) (hd:o.dict=Z8) (f:A.handled=Z8) (h:∀c g e,p9 s.heap c e "AttributeError"->Q Z8 {s with heap:=c,toks:=g}):
 wpAny (model prog w) A (qw (.ref a) "keys") Q E s:=Qm.ask d hc b hd f h
theorem Qp
 (d:s.heap.get? a=Z9 o) (hc:o.cls=.type "tuple") (b:o.data=.seq i k) (hd:o.dict=Z8) (f:A.handled=Z8) (h:∀c g e,p9 s.heap c e "AttributeError"->Q Z8 {s with heap:=c,toks:=g}):
 wpAny (model prog w) A (qw (.ref a) "keys") Q E s:=Qn.ask d hc b hd f h
abbrev vV (X:Cx)(A:gn)(E:Value->bb->Prop):Cx:={X with A:=A,xe:=E}
theorem _root_.L2.Inv.vV (I:Inv X a b H s)(hd:A.handled=X.A.handled)(hf:A.frames=X.A.frames):Inv (vV X A E) a b H s:=⟨⟨I.ok.mod,I.ok.kind,I.ok.glob,I.ok.blt,I.ok.above,I.ok.inj,I.ok.has,I.ok.rV,λz=>hd.trans (I.ok.hd z),hf.trans I.ok.frames,I.ok.tT,I.ok.kA,I.ok.bs,I.ok.kE,I.ok.iC,I.ok.iD,I.ok.cK,I.ok.oX,I.ok.wU⟩,I.os,I.bare,I.base,I.loc,I.cell,I.free,I.bC,I.pin,I.hok,I.len,I.fx⟩
theorem _root_.L2.Inv.DB (ok:X.Ok)(I:Inv (vV X A E) a b H s):Inv X a b H s:=⟨ok,I.os,I.bare,I.base,I.loc,I.cell,I.free,I.bC,I.pin,I.hok,I.len,I.fx⟩
namespace F
theorem entry_dict_loop:entryFor table "dict.update.loop"=some Builtin.«dict.update.loop»:=entryFor_of_tree (by kernel_rfl)
theorem aY:plainId "dict.update.loop"=true:=by decide+kernel
end F
theorem Qq (p:IsTup s.heap a b.toArray)(h:Q b s):wpAny (model prog w) A (Builtin.Dict.pairItems (.ref a)) Q E s:=by have c:=p.typeIs;obtain⟨o,d,hc,n,hd⟩:=p;apply ah;refine n7 c ?_;apply ah;refine o0 d hd ?_;apply bv;simpa using h
theorem zva (hc:X.calm=Z7)(hA:X.A=A.in1)(T:Turn X.prog X.w X.K (.Name x0 p0) J fp it tn)(P:Walk X.K J B H1 p)(V:¬B (Z9 d)):
  ∀n i s H kvs (es:bA) t W,p.length-i=n->i<=p.length->Inv X c Y H s->tn i s.heap->(∀b∈fp,FpOk X c H b)->H d=Z9 (.dK kvs)->kvs.length<=i->aZ X.K H B kvs es->iX es (p.drop i)=Z9 Z->Kp B H1 H->
   (∀Q C f,Inv X c Y C Q->C d=Z9 (.dK f)->aZ X.K C B f Z->(∀a o,a≠d->H a=Z9 o->C a=Z9 o)->R (.ok (.ret .none)) Q)->
   jl (model X.prog X.w) A (.builtin "dict.update.loop" ⟨[.ref d,.ref it,.int W t,.none],[]⟩) R s:=by
 intro n
 induction n with
 |zero=>
  intro i s H kvs es t W hn hi I st fo hd hl rs l kp hR;have e:i=p.length:=by omega
  subst e;refine ol F.entry_dict_loop ?_;rw[Around.under_plainId F.aY _,<-hA];refine ah (aM (T.done X rfl rfl rfl hc _ c s Y H _ I fo st (P.stop H kp)) λr S D=>?_);obtain⟨rfl,I1⟩:=D;rw[m5]at l;cases l;exact ah (bv (bv (hR S H kvs I1 hd rs λ_ _ _ e=>e)))
 |succ n ih=>
  intro i s H kvs es t W hn hi I st fo hd hl rs l kp hR;have g:i<p.length:=by omega
  refine ol F.entry_dict_loop ?_;rw[Around.under_plainId F.aY _,<-hA];refine ah (aM (T.item X rfl rfl rfl hc i c s Y H _ I fo st (P.go H kp i g)) λr S D=>?_);obtain⟨u,rfl,h4⟩:=D;have key:∀(m:Sem PySem.Fin) Q' E',wpAny (model X.prog X.w) X.A (lq (.Name x0 p0) (.ref it) u>>=λ_=>m) Q' E' S->wpAny (model X.prog X.w) X.A m Q' E' S:=λm Q' E' h=>h;refine key _ _ _ (ah (aM h4 λ_ s5 D=>?_));obtain⟨x,U,I5,r5,y5,v,Cv⟩:=D;obtain⟨sm,di,E,rx⟩:=P.gY H kp i x U g y5;have ed:p.drop i=di::p.drop (i+1):=by rw[g8 g];rw[ac g]at E;cases E;rfl
  rw[ed]at l;unfold iX at l;split at l
  case h_2=>cases l
  rename_i kd vd;split at l
  case isFalse=>cases l
  rename_i hk;obtain⟨a,vs,rfl,sq,Al⟩:=rx;obtain⟨vk,G,rfl,rk,rv⟩:=Ah Al;cases r5;obtain⟨fC,L,pt,_⟩:=I5.tuple sq;obtain⟨uk,uv,rfl,Qr,Qs⟩:=vals2 L;have M:=I5.pinned (λb j=>⟨Cv b j,(fo b j).2⟩) (T.obj _ _ v);have y:=sm _ _ hd;obtain⟨k,rfl,rfl,ok⟩:=yf hk rk;obtain⟨z,Qt,IG,rel,dd⟩:=xx M.hok y;have W5:IG.length<=ba:=rel.length▸z;have hz:=P.len;have Qu:(putK kvs k G).length<=i+1:=by have:=zS kvs k G;omega
  refine ah (gu (ah (wpAny_tryCatch (Qq pt ?_))));refine gu (wpAny_dictSet_pairs (rZ Qr) dd λh' N hs=>?_);have I6:=z5r (t':=s5.toks+1) M (y▸True.intro) hs (let⟨q,_,_,hq,_⟩:=N;⟨q,hq⟩) (Ca (by omega) Qt (rel.put k Qs) N)
  have O:Kp B U (upd U d (.dK (putK kvs k G))):=λb o e z=>by
   have:b≠d:=by
    rintro rfl
    rcases z with z|z
    .exact V z
    .rw[y]at e;cases e;exact z
   rw[aG this];exact e
  refine bv ⟨qa F.aY _,?_⟩;refine ih (i+1) _ (upd U d (.dK (putK kvs k G))) (putK kvs k G) (dput es (kD k) vd) _ _ (by omega) g I6.bX ?_ ?_ bF Qu ?_ l ?_ ?_
  .exact T.keep _ _ _ v λb j o e=>(I6.pin (b,o) (bf _ (bf _ (vO j e)))).1
  .intro b j;obtain⟨o,e,_⟩:=T.obj _ _ v b j;exact⟨(I6.pin (b,o) (bf _ (bf _ (vO j e)))).2.1,(fo b j).2⟩
  .exact aZ.keep O (λ_ z=>z) _ (aZ.put ok rv (rs.same sm λ_ z=>z))
  .exact λb o e z=>O b o (sm b o (kp b o e z)) z
  .intro Q C f I' xH Qv ext;refine hR Q C f I' xH Qv λb o j e=>ext b o j ?_;rw[aG j];exact sm b o e
theorem Qw {K:Z5}(s:Same H b)(h:SqL K H a c):SqL K b a c:=by
 rcases h with(h|⟨o,h⟩)|h
 .exact .inl (.inl (s _ _ h))
 .exact .inl (.inr ⟨o,s _ _ h⟩)
 .exact .inr h
theorem Qx (es:bA)(k v:D)(a:cO es=Z7)(h:imm v=Z7):cO (es++[(k,v)])=true:=by
 unfold cO at *
 rw[List.all_append,a];simp[h]
theorem Qy (k v:D)(a:imm v=Z7)(es:bA)(h:cO es=Z7):cO (es.map λe=>if eqK e.1 k then(e.1,v)else e)=true:=by
 unfold cO at *
 rw[cc]at *
 intro e b;obtain⟨c,d,rfl⟩:=bz.mp b;split
 .exact a
 .exact h c d
theorem IH:∀(b:List D) es a,imms b=Z7->cO es=Z7->iX es b=Z9 a->cO a=Z7
 | [],es,a,_,h,e=>by cases e;exact h
 |y::b,es,a,c,d,e=>by
  simp only[imms,cg]at c;unfold iX at e;split at e
  case h_2=>cases e
  rename_i k v;split at e
  case isFalse=>cases e
  have f:imm v=true:=by have:=c.1;change(imm k&&(imm v&&Z7))=Z7 at this;simp only[cg]at this;exact this.2.1
  refine IH b _ a c.2 ?_ e;unfold dput;split
  .exact Qy k v f es d
  .exact Qx es k v d f
theorem Qz (hc:X.calm=Z7):CallR X (.type "dict") (rAgg X.K "dict"):=by
 rintro c s U H xs us Q I r ⟨B,x,dx,l,p,d,rfl,rx,e,G,q⟩
 obtain⟨a,vs,rfl,L,rs⟩:=Ak rx e
 have e3:∃f,iX [] p=Z9 f/\d=.dict f:=by
  simp only[aggD,show("dict":String)≠"list" by decide,show("dict":String)≠"tuple" by decide,show("dict":String)≠"sorted" by decide,show("dict":String)≠"sum" by decide,show("dict":String)≠"all" by decide,show("dict":String)≠"any" by decide,if_true,if_false]at G;cases h:iX [] p with
  |none=>rw[h]at G;cases G
  |some es=>rw[h]at G;cases G;simp_all
 obtain⟨f,em,rfl⟩:=e3;have ew:z54 dx=.ok p:=by cases dx<;>first|(cases e;done)|(cases e;rfl)
 obtain⟨u,rfl,rfl⟩:=vals1 r;have t:=I.hok.fresh (ak _);have V:Inv X c U (upd H s.heap.objs.size (.dK [])) {s with heap:=s.heap.push {cls:=.type "dict",data:=.dict #[]}}:=I.laid (λ_ _ q=>am _ q) (ak _) (Cb s.heap I.big);refine callType_codes (Q₁:=λobj j=>obj=.ref s.heap.objs.size/\j={s with heap:=s.heap.push {cls:=.type "dict",data:=.dict #[]}}) PySem.F.kt_called_dict (PySem.F.kt_typeCall_dict_1 _) PySem.F.entry_dict_init (kt_code_dict_new _ ⟨rfl,rfl⟩) ?_
 rintro obj j ⟨rfl,rfl⟩
 have k:(⟨s.heap.push {cls:=.type "dict",data:=.dict #[]},s.gens,s.drawn,s.toks,s.os⟩:bb).TypeIs (.ref s.heap.objs.size) "dict":=⟨_,bx _ rfl,rfl⟩;refine⟨k,PySem.F.args_dict_init_2 _ _,?_⟩
 delta Builtin.«dict.__init__»
 refine ah ?_
 delta Builtin.Dict.selfAndRest
 refine ah (wpAny_notOrdered_dict k ?_);refine bv ?_;show wpAny _ _ (m6 "dict.__init__" s.heap.objs.size (.ref a) [] .none) _ _ _
 delta m6
 have rest:∀m v,(∀b o,(s.heap.push {cls:=.type "dict",data:=.dict #[]}).get? b=Z9 o->m.get? b=Z9 o)->wpAny (model X.prog X.w) X.A.in1.in1 (ri (.ref a)) (λi M=>jl (model X.prog X.w) X.A.in1 (.builtin "dict.update.loop" ⟨[.ref s.heap.objs.size,i,jw 0,.none],[]⟩) (wants (λr N=>r=.none/\EP X c U Q (.ref s.heap.objs.size) N) X.xe) M) (λ_ _=>False) ⟨m,s.gens,s.drawn,v,s.os⟩:=by
  intro m v kp;have I2:Inv (vV X X.A.in1.in1 (λ_ _=>False)) c U (upd H s.heap.objs.size (.dK [])) ⟨m,s.gens,s.drawn,v,s.os⟩:=(V.kept kp).vV rfl rfl;refine aM (z37 (tg:=.Name "" default) (R:=λJ y=>Walk X.K J (λa=>B a/\¬nw H a) y p/\y=upd H s.heap.objs.size (.dK [])) I2 (show RelV (.ref a) (.ref a)from rfl) ((Rep.there _ rx).same (Same.upd t) λ_ z=>z) ew λJ W=>⟨W,rfl⟩) λi M zz=>?_;obtain⟨it,fp,tn,J,y,Y,I3,T,st,fo,W,eH⟩:=zz;subst Y eH;refine zva (X:=vV X X.A.in1.in1 (λ_ _=>False)) hc rfl T W (λz=>z.2 t) p.length 0 M _ [] [] _ _ (by omega) (by omega) I3 st fo bF (ak _) rfl em (λ_ _ e _=>e) ?_;intro s' y O I' Z P ext;refine⟨rfl,.ref s.heap.objs.size,y,I'.DB I.ok,rfl,q _ y (λb o e=>ext b o (bR e t) (aG (bR e t)▸e)) ⟨_,O,rfl,Z,.inl t,?_⟩⟩;cases hi:imms p with
  |true=>exact aZ.aW f (IH p [] f hi rfl em) P
  |false=>exact P.same (Same.refl y) λ_ z=>.inr ⟨rfl,z.1⟩
 have hA:=I.ok.hd hc;cases l with
 |true=>obtain⟨fC,_,⟨o,n,S,g,C,D⟩,_⟩:=V.list (Qw (Same.upd t) L);refine ah (n7 ⟨o,S,g⟩ ?_);refine ah (Qo S g D C hA λm v e hx=>?_);refine ah (n8 (ah (ez (rest m v hx.keeps) (λi M E=>?_) λ_ _ z=>z.elim)));exact bv ⟨qa F.aY _,E⟩
 |false=>obtain⟨fC,_,⟨o,n,S,g,C,D⟩,_⟩:=V.tV (dD.rel (Same.upd t) L);refine ah (n7 ⟨o,S,g⟩ ?_);refine ah (Qp S g D C hA λm v e hx=>?_);refine ah (n8 (ah (ez (rest m v hx.keeps) (λi M E=>?_) λ_ _ z=>z.elim)));exact bv ⟨qa F.aY _,E⟩
theorem DC {h:Heap}(c:b≠a)(e:h.get? b=Z9 o):(h.update a f).get? b=Z9 o:=by rw[jo _ _ _ _ c];exact e
theorem z7k {a:List Value}(x:s.heap.IsList l a.toArray)(y:a.length<2)
  (h:∀D m n,s.heap.objs.size<=D->(∀b o,s.heap.get? b=Z9 o->m.get? b=Z9 o)->m.get? D=Z9 (jp "list" a.toArray n)->Q (.ref D) {s with heap:=m}):wpAny (model prog w) A (call (.builtin "sorted") [.ref l]) Q E s:=by
 apply Calls.call_function_entry kind_sorted plain_sorted entry_sorted (args_sorted1 _);apply ah;apply bv;apply ah;refine collect_list x ?_ (by rw[cb];omega);apply ah;refine wpAny_newList ?_ (by rw[cb];omega);have u:∀b o,s.heap.get? b=Z9 o->((s.heap.push (jp "list" #[] 0)).update s.heap.objs.size (Obj.mapSeq (· ++a.toArray))).get? b=Z9 o:=λb o e=>DC (cv (bn e)) (am _ e);have k:s.heap.objs.size<=((s.heap.push (jp "list" #[] 0)).update s.heap.objs.size (Obj.mapSeq (· ++a.toArray))).objs.size:=by rw[Heap.size_update,size_push'];omega
 generalize ((s.heap.push (jp "list" #[] 0)).update s.heap.objs.size (Obj.mapSeq (·++a.toArray)))=i at u k ⊢;have c:(i.push (jp "list" a.toArray 0)).get? i.objs.size=Z9 (jp "list" a.toArray 0):=bx _ rfl;have j:∀b o,s.heap.get? b=Z9 o->b≠i.objs.size/\(i.push (jp "list" a.toArray 0)).get? b=Z9 o:=λb o e=>⟨cv (ci (bn e) k),am _ (u b o e)⟩;generalize B:i.objs.size=D at c j k ⊢;generalize i.push (jp "list" a.toArray 0)=f at c j ⊢;apply ah;apply gu;refine m7 slot_list_sort ⟨_,c,rfl⟩ entry_list_sort ?body (args_list_sort _);rw[list_sort_plain];refine ah (listItems_at c rfl ?_);refine ah (listUpdate_at c rfl ?_);obtain⟨p,g⟩:∃p,(f.update D (Obj.mapSeq λ_=>(#[]:Array Value))).get? D=Z9 (jp "list" #[] p):=⟨_,get?_update_seq c λ_=>#[]⟩;have q:∀b o,s.heap.get? b=Z9 o->b≠D/\(f.update D (Obj.mapSeq λ_=>(#[]:Array Value))).get? b=Z9 o:=λb o e=>⟨(j b o e).1,DC (j b o e).1 (j b o e).2⟩;generalize (f.update D (Obj.mapSeq λ_=>(#[]:Array Value)))=r at g q ⊢;refine ah (seqEpoch_at g rfl ?_);refine ah (wpAny_newTuple ?_ (by rw[cb];simp;omega));apply ah;refine wpAny_newList (gu ?_);have d:((r.push (jp "tuple" a.toArray 0)).push (jp "list" #[] 0)).get? D=Z9 (jp "list" #[] p):=am _ (am _ g);have t:∀b o,s.heap.get? b=Z9 o->b≠D/\((r.push (jp "tuple" a.toArray 0)).push (jp "list" #[] 0)).get? b=Z9 o:=λb o e=>⟨(q b o e).1,am _ (am _ (q b o e).2)⟩;generalize ((r.push (jp "tuple" a.toArray 0)).push (jp "list" #[] 0))=C at d t ⊢;have v:a.toArray.size<2:=by simpa using y
 rw[tw v,tw v];refine ah (bv ?_);refine ah (bv ?_);refine ah (seqEpoch_at d rfl ?_);have z:(arrOf (SortSt.mk' general' (a.toArray.zip a.toArray) #[] 7 Z8)).map (·.2)=a.toArray:=by show(a.toArray.zip a.toArray).map (·.2)=a.toArray;simp;exact List.map_snd_zip (ak _)
 rw[z];refine ah (listUpdate_at d rfl ?_);simp only[if_false,Bool.false_eq_true,bne_self_eq_false];refine bv ⟨_,rfl,bv ⟨_,rfl,h D _ _ k (λb o e=>DC (t b o e).1 (t b o e).2) (get?_update_seq d λ_=>a.toArray)⟩⟩
theorem z1b.some (x:z1b P w H h a o):∃q,h.get? a=Z9 q:=by
 cases o with
 |lst b=>obtain⟨_,_,_,_,e⟩:=x;exact⟨_,e⟩
 |tup b=>obtain⟨_,_,_,_,e⟩:=x;exact⟨_,e⟩
 |dK kvs=>obtain⟨_,_,_,_,o,_,_,e,_⟩:=x;exact⟨_,e⟩
 |dT kvs=>obtain⟨_,_,_,_,o,_,_,e,_⟩:=x;exact⟨_,e⟩
 |set S n=>obtain⟨ob,es,ep,t,e,c⟩:=x;exact⟨_,e⟩
 |ins C dx fs=>obtain⟨d,z,ne,e,_⟩:=x;exact⟨_,e⟩
 |own y=>exact x
 |xd fs=>obtain⟨f,⟨od,es,ep,e,c⟩,r⟩:=x;exact⟨_,e⟩
 |fV ob u=>exact⟨_,x.1⟩
 |mU ps=>exact⟨_,x⟩
 |ext g=>obtain⟨p,⟨o,e⟩,st⟩:=x;exact⟨_,e⟩
theorem _root_.L2.Inv.laidF {D:Addr}(I:Inv X a y H s)(hm:s.heap.Ns X.env.locals m)(d:h.Ns X.env.locals m)
  (kp:∀b u,b≠X.env.locals->s.heap.get? b=Z9 u->h.get? b=Z9 u) (l:s.heap.get? D=Z8) (new:z1b X.prog X.w (upd H D o) h D o):Inv X a y (upd H D o) {s with heap:=h,toks:=t'}:=by
 have f:H D=none:=by
  cases e:H D with
  |none=>rfl
  |some u=>obtain⟨q,p⟩:=z1b.some (I.hok D u e);rw[l]at p;cases p
 refine I.step (ch:=[]) (λ_ z=>nomatch z) (λb q i _ _ e _=>kp b q i e) (λb q i _ _ e _=>⟨q.slots,kp b q i e⟩) (λb q _ e n=>?_) (λb q _ e=>?_) (λb r q=>by rw[aG (bR q f)];exact q) (λb u r q=>by rw[aG (bR q f)];exact q) (λb ps q=>⟨#[],by rw[aG (bR q f),q];simp⟩) (λB j=>?_) (λb u e=>?_) I.bare
 .rw[aG (λz=>by subst z;rw[l]at e;cases e)];exact n
 .by_cases g:b=X.env.locals
  .subst g;obtain⟨A,_,_,k,_⟩:=d;exact⟨A,k⟩
  .exact⟨q,kp b q g e⟩
 .rw[j.eq_nsMap,<-hm.eq_nsMap];exact d
 .by_cases g:b=D
  .subst g;rw[bF]at e;cases e;exact new
  .rw[aG g]at e;have t:∀c v,H c=Z9 v->c≠X.env.locals:=λc v x z=>by subst z;rw[I.free]at x;cases x
   refine(I.hok b u e).stay (λc v hc q=>kp c v ?_ q) (λc q=>by rw[aG (bR q f)];exact q) λc r q=>by rw[aG (bR q f)];exact q
   rcases hc with rfl|hc
   .exact t _ _ e
   .exact t _ _ hc
theorem II (r:Vals a b):∀(is:List Nat),(∀i∈is,i<a.length)->Vals (is.map λi=>a.getD i .aO) (is.map λi=>b.getD i Value.none)
 | [],_=>.nil
 |i::is,h=>by
  have c:=h i (by simp);obtain⟨u,hu,d⟩:=r.get (i:=i) (x:=a[i]) (by simp[c]);have e:a.getD i .aO=a[i]:=by simp[c]
  have f:b.getD i Value.none=u:=by rw[aa,hu];rfl
  rw[br,br,e,f];exact .cons d (II r is λj g=>h j (by simp[g]))
theorem IJ (f:∀i j C,i<n->j<n->C (lt i j) s->cmp i j C s):∀t,uu n t=Z7->Q (runK lt t) s->t.kasWp cmp Q s
 |.ret a,_,q=>q
 |.ask i j k,h,q=>by obtain⟨a,b⟩:=au.mp (au.mp h).1;exact f i j _ (t8 a) (t8 b) (IJ f (k (lt i j)) (HZ h _) q)
theorem IK {K:Z5}(r:Reps K H B b a):∀(is:List Nat),(∀i∈is,i<a.length)->Reps K H B (is.map λi=>b.getD i .aO) (is.map λi=>a.getD i dP)
 | [],_=>rfl
 |i::is,h=>by
  have c:=h i (by simp);obtain⟨v,e,f⟩:=r.get (i:=i) (d:=a[i]) (by simp[c]);have g:a.getD i dP=a[i]:=by simp[c]
  have k:b.getD i .aO=v:=by rw[aa,e];rfl
  rw[br,br,g,k];exact Reps.cons f (IK r is λj l=>h j (by simp[l]))
theorem zr1 {c:List (Addr×Obj)}{m:L2.St}{H:Hp}{B:Ad->Prop}{s:bb}(I:Inv X c m H s){j:Heap}(kp:∀b o,b≠X.env.locals->s.heap.get? b=Z9 o->j.get? b=Z9 o){v:V}{u:Value}{d:D}(hd:isP2 d=Z7)(r:Rep X.K H B v d)(q:RelV v u):
  ∃h z k o t i n,u=.ref h/\d=.tuple [.str z,.int k]/\j.get? h=Z9 o/\o.cls=.type "tuple"/\o.data=.seq (n9 [.str z t,.int k i]) n:=by
 obtain⟨z,k,rfl⟩:=OX hd;obtain⟨h,C,rfl,p,_,_,rfl,x,_,_,rfl,y,rfl⟩:=r;cases q;cases x.1;cases y;obtain⟨A,e,⟨o,l,hc,n,hd⟩,_⟩:=I.tuple p;cases e with
 |cons a e=>
  cases e with
  |cons b e=>
  cases e;obtain⟨t,rfl⟩:=a;obtain⟨i,rfl⟩:=b;refine⟨h,z,k,o,t,i,n,rfl,rfl,kp _ _ (λw=>?_) l,hc,hd⟩;subst w;obtain⟨_,⟨E,es,ep,f,g,_⟩,_⟩:=id I.loc;rw[l]at f;cases f;rw[hd]at g;cases g
theorem zol {h:List (Addr×Obj)}{q:L2.St}{H:Hp}{B:Ad->Prop}{s:bb}(I:Inv X h q H s){m:Heap}(kp:∀b o,b≠X.env.locals->s.heap.get? b=Z9 o->m.get? b=Z9 o):
  ∀{j:List D} {i:List V} {g:List Value},(∀d∈j,isP2 d=Z7)->Reps X.K H B i j->Vals i g->∃fs,KatTups m g fs/\fs.length=g.length/\∀f∈fs,∃z t,f=.str z t
 | [],i,g,_,r,l=>by have e:i=[]:=r;subst e;cases l;exact⟨[],trivial,rfl,λ_ z=>nomatch z⟩
 |y::j,i,g,p,r,l=>by
  obtain⟨v,t,rfl,u,w⟩:=r;cases l with
  |cons a c=>obtain⟨fs,x,A,C⟩:=zol I kp (λd hd=>p d (by simp[hd])) w c;obtain⟨F,z,k,o,t,G,n,rfl,rfl,E,hc,hd⟩:=zr1 I kp (p y (by simp)) u a;exact⟨_::fs,KatTups.cons E hc hd rfl x,by simp[A],λf hf=>(bq.mp hf).elim (λe=>⟨z,t,e⟩) (C f)⟩
theorem zfu {L:List (Addr×Obj)}{s:bb}{σ:L2.St}{H:Hp}{Q:VK}(I:Inv X L σ H s){a:Addr}{O:List V}{l:List Value}{f:List D}{B:Ad->Prop}
  (hl:s.heap.IsList a l.toArray) (rv:Vals O l) (rs:Reps X.K H B O f) (h2:2<=f.length) (h4:f.length<4) (hp:∀d∈f,isP2 d=Z7)
  (q:∀w H',Same H H'->Rep X.K H' (λa=>nw H a\/(imms f=Z6/\B a)) w (.list (ur f))->Q w H'):
  wpAny (model X.prog X.w) X.A (call (.builtin "sorted") [.ref a]) (EP X L σ Q) X.xe s:=by
 have l1:O.length=f.length:=rs.length;have l2:O.length=l.length:=rv.length;obtain⟨m,R,_⟩:=id I.loc;refine kat_sorted ⟨R,I.bk,bj I.ok.kE I.ok.above⟩ (Nm (h:=s.heap)) hl (by omega) (by omega) λD S h' F' N' U=>?_
 have M:∀{E:Heap} {o:Obj},Fr X.base X.env.locals E m->News X.base X.env.locals E ((D,o)::zJ X.base s.heap X.env.locals)->∀b o,b≠X.env.locals->s.heap.get? b=Z9 o->E.get? b=Z9 o:=λF G b o hb e=>by
  cases qq:X.base.get? b with
  |some u=>have:=I.bk b u qq;rw[e]at this;cases this;exact F.keep b _ qq
  |none=>exact(G (b,o) (bc _ (GQ hb qq e))).1
 have W:=N' (D,jp "list" #[] S) bg
 have hD:s.heap.get? D=none:=by
  cases e:s.heap.get? D with
  |none=>rfl
  |some o=>exact absurd (U (D,o) (GQ W.2.1 W.2.2 e)) (dm _)
 have N:H D=none:=by
  cases e:H D with
  |none=>rfl
  |some u=>obtain⟨q,hq⟩:=z1b.some (I.hok D u e);rw[hD]at hq;cases hq
 have kp:=M F' N';have el:l.length=f.length:=by omega
 obtain⟨fs,k1,k2,k3⟩:=zol I kp hp rs rv;refine kat_kind (T:=.type "str") k1 (by omega) (λu hu=>by obtain⟨z,t,rfl⟩:=k3 u hu;exact Looks.of_pure rfl) dc ?_
 have part:∀i,i<f.length->∃ad z k o t t' n,l.getD i Value.none=.ref ad/\f.getD i dP=.tuple [.str z,.int k]/\h'.get? ad=Z9 o/\o.cls=.type "tuple"/\o.data=.seq (n9 [.str z t,.int k t']) n:=λi J=>by
  obtain⟨v,r1,r2⟩:=rs.get (i:=i) (d:=f[i]) (by simp[J]);obtain⟨u,r3,r4⟩:=rv.get r1;have S:f.getD i dP=f[i]:=by simp[J]
  have e2:l.getD i Value.none=u:=by rw[aa,r3];rfl
  rw[S,e2];exact zr1 I kp (hp _ (fv J)) r2 r4
 have ok:=HY h2 h4;rw[el];refine IJ (n:=f.length) (lt:=λi j=>vQ (f.getD i dP) (f.getD j dP)) (λi j C J hj P=>?_) _ ok ?_
 .obtain⟨ai,Y,ki,oi,ti,W6,ni,S,e2,e3,_,e4⟩:=part i J;obtain⟨aj,zj,kj,oj,tj,W7,nj,f1,f2,f3,_,f4⟩:=part j hj;show wpAny _ _ (keyLt' _ (l.getD i Value.none) (l.getD j Value.none)) C _ _;rw[S,f1];refine kat_lt e3 e4 f3 f4 (kat_cons (wpAny_eqBool_str ?_))
  have g:vQ (f.getD i dP) (f.getD j dP)=if Y=zj then decide (ki<kj)else decide (Y.cps.toList<zj.cps.toList):=by
   rw[e2,f2];show(if(Y==zj)=Z7 then(if(ki==kj)=Z7 then Z6 else decide (ki<kj))else _)=_;by_cases z:Y=zj
   .rw[tw (beq_iff_eq.mpr z),tw z];by_cases y:ki=kj
    .rw[y];simp
    .rw[tx λx=>y (uc x)]
   .rw[tx λx=>z (uc x),tx z];rfl
  by_cases z:Y=zj
  .rw[tw z]at g;rw[ua z];refine kat_yes (kat_cons (wpAny_eqBool_int ?_));by_cases y:ki=kj
   .rw[beq_iff_eq.mpr y];refine kat_yes ?_;rw[g,y,ub (Int.lt_irrefl _)]at P;exact P
   .rw[beq_eq_false_iff_ne.mpr y];rw[g]at P;exact kat_no (kat_one _ _ (PyProof.Rows.lt_int P))
  .rw[ub z];rw[g,tx z]at P;exact kat_no (oneLt_str P)
 .refine⟨_,_,F',N',.head (λp hp=>cv (U p hp)),λE c F G=>?_⟩;have IL:=(G _ bg).1;have out:ur f=_:=tx (by omega);have r:=CG (lt:=λi j=>vQ (f.getD i dP) (f.getD j dP)) ok;generalize runK _ (kas_sort f.length)=pm at out r IL ⊢;have Am:∀i∈pm.toList,i<f.length:=λi J=>dq.mp (r.mem_iff.mp J);have new:z1b X.prog X.w (upd H D (.lst (pm.toList.map λi=>O.getD i .aO))) E D (.lst (pm.toList.map λi=>O.getD i .aO)):=⟨by rw[ae,r.length_eq,cx,cb];omega,_,c,II rv pm.toList (λi J=>by rw[l1];exact Am i J),IL⟩;refine⟨.ref D,_,I.laidF (t':=s.toks) R F.ns (M F G) hD new,rfl,q _ _ (Same.upd N) ?_⟩;rw[out];exact sP N (IK (Reps.nV rs) pm.toList Am) (λ_ z=>z) (.inl N)
theorem zdf (hu:X.A.units+64<cLine)(I:Inv X c p H s)(r:Vals t v)(y:t=[x])(C:Rep X.K H B x dx)(e:z55 dx=.ok (Z7,b))(g:aggD "sorted" Z7 b=.ok d)
  (q:∀w h,Same H h->Rep X.K h (λa=>nw H a\/(imms b=Z6/\B a)) w d->Q w h):wpAny (model X.prog X.w) X.A (call (.builtin "sorted") v) (EP X c p Q) X.xe s:=by
 subst y;obtain⟨a,E,rfl,i,rs⟩:=Ak C e;simp only[aggD,show("sorted":String)≠"list" by decide,show("sorted":String)≠"tuple" by decide,if_true,if_false]at g;split at g
 case isFalse=>cases g
 rename_i hc;cases g;simp only[decide_eq_true_eq,cg,true_and]at hc;obtain⟨hs,j⟩:=hc;obtain⟨u,rfl,rfl⟩:=vals1 r;obtain⟨f,k,pl,F⟩:=I.list i;have G:f.length=b.length:=by rw[<-k.length,rs.length]
 by_cases J:b.length<2
 .refine z7k pl.isList (by omega) λD M n m kp L=>?_;have l:=I.hok.fresh m;refine⟨.ref D,_,I.laid (o:=.lst E) (t':=s.toks) kp m ⟨F,f,n,k,L⟩,rfl,q _ _ (Same.upd l) ?_⟩;rw[show ur b=b from tw J];exact sP l (Reps.nV rs) (λ_ z=>z) (.inl l)
 .exact zfu I pl.isList k rs (by omega) j (cc.mp hs) q
theorem QA (r:KV kvs c){i:Nat}(h:kvs[i]?=Z9 (k,v)):∃u,c[i]?=Z9 (k,u)/\RelV v u:=by
 induction r generalizing i with
 |nil=>simp at h
 |cons a b d=>
  cases i with
  |zero=>cases h;rename_i e _ _;obtain⟨g,f⟩:=e;obtain⟨rfl,a2⟩:=a;exact⟨f,rfl,a2⟩
  |succ i=>exact d h
theorem QB (h:(gT P w).is k u=Z7):RelV (kV k) u:=by
 rcases oW h with⟨i,t,rfl,rfl⟩|⟨x,t,rfl,rfl⟩
 .exact⟨t,rfl⟩
 .exact⟨t,rfl⟩
theorem aZ.at {K:Z5}:∀{kvs:List (Key×V)} {es:bA} {i:Nat} {k:Key} {v:V},aZ K H B kvs es->kvs[i]?=Z9 (k,v)->∃d,es[i]?=Z9 (kD k,d)/\keyOk k/\Rep K H B v d
 |kvs,[],i,k,v,r,e=>by have:kvs=[]:=r;subst this;simp at e
 |kvs,(kd,d)::es,i,k,v,r,e=>by
  obtain⟨c,f,t,rfl,rfl,ok,a,b⟩:=r;cases i with
  |zero=>cases e;exact⟨d,rfl,ok,a⟩
  |succ i=>rw[gh]at e ⊢;exact aZ.at b e
theorem QC {K:Z5}(ok:keyOk k):Rep K H B (kV k) (kD k):=by
 cases k with
 |inl i=>exact rfl
 |inr x=>exact⟨rfl,ok⟩
theorem _root_.L2.Inv.sQ (I:Inv X d k H s)(f:FpOk X d H a)(new:z1b X.prog X.w (upd H a u) s.heap a u):Inv X d k (upd H a u) s:=by
 obtain⟨g,l,t,o,p,r⟩:=f
 exact I.step (ch:=[a]) (fun b i=>by
   have e:b=a:=by simpa using i
   subst e;exact⟨o,l,p,r⟩) (λb q _ _ _ e _=>e) (λb q _ _ _ e _=>⟨q.slots,e⟩) (λb q hc _ n=>by rw[aG (λz=>hc (by simp[z]))];exact n) (λb q _ e=>⟨q,e⟩)
  (λb j q=>by rw[aG (bR q g)];exact q) (λb v j q=>by rw[aG (bR q g)];exact q) (λb ps q=>⟨#[],by rw[aG (bR q g),q];simp⟩) (λm h=>h) (λb v e=>by
   by_cases i:b=a
   .subst i;rw[bF]at e;cases e;exact new
   .rw[aG i]at e;exact(I.hok b v e).stay (λc w _ q=>q) (λc q=>by rw[aG (bR q g)];exact q) λc j q=>by rw[aG (bR q g)];exact q) I.bare
theorem z88:∀(l:List (Addr×List V)) {H:Hp},Inv X d k H s->(l.map (·.1)).Nodup->(∀q∈l,FpOk X d H q.1)->(∀q∈l,q.2.length<=ba/\∃f,Vals q.2 f/\TupN s.heap q.1 f.toArray)->
  ∃e,Inv X d k e s/\Same H e/\(∀q∈l,e q.1=Z9 (.tup q.2))/\∀a,a∉l.map (·.1)->e a=H a
 | [],H,I,_,_,_=>⟨H,I,Same.refl H,(λq c=>absurd c (by simp)),λ_ _=>rfl⟩
 |(a,g)::l,H,I,nd,hf,i=>by
  rw[br,ef]at nd;have fa:=hf (a,g) (by simp);obtain⟨e,m,sm,n,j⟩:=z88 l (I.sQ (u:=.tup g) fa (i (a,g) (by simp))) nd.2 (λq c=>by obtain⟨o,r⟩:=hf q (by simp[c]);exact⟨by rw[aG ((λq c z=>nd.1 (bz.mpr ⟨q,c,z⟩)) q c)];exact o,r⟩) λq c=>i q (by simp[c]);refine⟨e,m,(Same.upd fa.1).trans sm,λq c=>?_,λb h=>?_⟩
  .rcases bq.mp c with p|c;subst p
   .rw[j a nd.1];exact bF
   .exact n q c
  .rw[br,bq,not_or]at h;rw[j b h.2,aG h.1]
theorem An {K:Z5}:∀{b:List V} {c:List D},b.length=c.length->(∀(i:Nat) v d,b[i]?=Z9 v->c[i]?=Z9 d->Rep K H B v d)->Reps K H B b c
 | [],[],_,_=>rfl
 |v::b,d::c,a,h=>Reps.cons (h 0 v d rfl rfl) (An (by simpa using a) λi v d e f=>h (i+1) v d (by simpa using e) (by simpa using f))
 | [],_::_,a,_=>by cases a
 |_::_,[],a,_=>by cases a
theorem IM:∀as:List Addr,Vals (as.map V.ref) (as.map ZS)
 | []=>.nil
 |a::as=>.cons rfl (IM as)
theorem QD (hu:X.A.units+64<cLine):CallR X (.builtin "sorted") (rAgg X.K "sorted"):=by
 rintro a s g H h i Q I r ⟨B,x,dx,l,j,d,c,f,e,b,q⟩
 cases l with
 |true=>exact zdf hu I r c f e b q
 |false=>cases b
def IP (lo c:Int)(n:Nat):It:=⟨λi _=>i<n,λi H x H'=>H'=H/\x=.int (lo+i*c),λi _=>n<=i⟩
theorem QE {K:Z5}(it:Addr)(g c:Int)(n:Nat):Turn P w K B (IP g c n) [it] it (λi h=>rj h it (g+(i:Nat)*c) ((n:Int)-(i:Nat)) c) where
 mem:=by simp
 obj:=λi h st b d=>by
  obtain rfl:b=it:=by simpa using d
  refine⟨_,st,λv z=>?_⟩;cases z
 keep:=λi h j st k=>k it (by simp) _ st
 item:=by intro X p q r hc i a s m H E I hf st l;have⟨f0,f1,f2,f3,f4,f5⟩:=hf it (by simp);refine(Walks.range (I.ok.hd hc) it g c n).item i s _ _ l st λv j u x f kk=>?_;obtain⟨t,rfl⟩:=x;have y:Inv X a m H {s with heap:=j,toks:=u}:=I.turned (λb o d e=>kk b o (by simpa using d) e) f0 f1 f3 f4 f5;exact⟨_,rfl,zfs f rfl rfl dc ⟨.int (g+i*c),H,y,⟨t,rfl⟩,⟨rfl,rfl⟩,f,λb d=>(hf b d).1⟩⟩
 done:=by intro X p q r hc i a s m H E I hf st l;have⟨f0,f1,f2,f3,f4,f5⟩:=hf it (by simp);have hn:n<=i:=l;refine nk (I.ok.hd hc) st (by omega) λj A=>⟨rfl,?_⟩;exact I.turned (λb o d e=>A b o d e) f0 f1 f3 f4 f5
 self:=λ_ _ _ _ _ st h=>nl st h
def uH (a b c:Int):Nat:=if a<b then((b-a-1)/c+1).toNat else 0
theorem rangeSize_pos {a b c:Int}(hc:0<c):j3 a b c=(uH a b c:Int):=by
 unfold j3 uH;rw[tw hc];split
 .have :0<=(b-a-1)/c:=Int.ediv_nonneg (by omega) (by omega);omega
 .rfl
theorem IQ {a b c:Int}(hc:0<c)(d:-aT<=a)(e:b<=aT):uH a b c<=3*aT:=by
 unfold uH;split
 .have f:(b-a-1)/c<=b-a-1:=Int.ediv_le_self _ (by omega);omega
 .exact c9 _
theorem QF {a b c:Int}(hc:0<c)(e:-aT<=a)(f:a<=aT)(g:b<=aT)(h:-aT<=b)(i:c<=aT):pj a b c=true:=by
 have hn:=IQ hc e g;unfold pj;rw[rangeSize_pos hc,tw hc];have d:∀x,-4000000<=x->x<=4000000->lw x=true:=λx j k=>by unfold lw;simp;omega
 unfold aT at *
 rw[d a (by omega) (by omega),d b (by omega) (by omega),d c (by omega) (by omega),d _ (by omega) (by omega),d (b+(c-1)) (by omega) (by omega)];simp
theorem QG {K:Z5}{b c:Int}(f:n<=ba):Walk K (IP b c n) B H ((bw n).map λ(i:Nat)=>.int (b+i*c)):=by
 have d:((bw n).map λ(i:Nat)=>(ZU (b+i*c):D)).length=n:=by simp
 constructor
 .rw[d];exact f
 .intro e k i a;rw[d]at a;exact a
 .intro e k;rw[d];exact ak _
 .rintro e k i x g a ⟨rfl,rfl⟩
  rw[d]at a;exact⟨Same.refl _,.int (b+i*c),by rw[ao,ee a];rfl,rfl⟩
theorem QH (hm:X.mg "range"=Z8)(O:Gl X "range")(hs:isStar a=Z6)(A:isStar b=Z6)(B:isStar c=Z6)(P:PA X [a,b,c] (tDA X.K fs))(Q:∀m j,fs m=.ok j->j.length=3):PI X tg (.Call (.Name "range" p) [a,b,c] [] pos) (tDW X.K λm=>fs m>>=λj=>hP (j.map (·.2))>>=λM=>.ok (.fr,M)):=by
 rintro f s C H R I ⟨m,F,w,so,e,q⟩
 obtain⟨j,y,e⟩:=Res.aA e;obtain⟨M,l,e⟩:=Res.aA e;cases e;have D:dj [c] X.env=[(Z6,eval c X.env)]:=eQ B;have E:dj [b,c] X.env=(Z6,eval b X.env)::[(Z6,eval c X.env)]:=by rw[eQ A,D]
 refine Call_ (z2p I O hm sj (PyProof.Rows.callWith_type1 (aM (P pos f s C H (λG k=>Same H k/\eV X.K F H k G j) I ⟨m,F,j,so,y,λG k u rs=>⟨u,rs⟩⟩) λus u ⟨G,k,S,T,sm,rs⟩=>?_) (eQ hs) (by rw[E];rfl)));have U:=Q m j y;rcases j with _|⟨⟨g,d⟩,_|⟨⟨g',N⟩,_|⟨⟨g2,d2⟩,_|⟨_,_⟩⟩⟩⟩<;>try (simp at U;done)
 obtain⟨v,t1,ev,V,W⟩:=rs;obtain⟨Y,Z,J,h2,h3⟩:=W.two;subst ev J;obtain⟨h,rfl⟩:∃i,d=.int i:=by cases d<;>first|exact⟨_,rfl⟩|cases l
 obtain⟨x,rfl⟩:∃i,N=.int i:=by cases N<;>first|exact⟨_,rfl⟩|cases l
 obtain⟨st,rfl⟩:∃i,d2=.int i:=by cases d2<;>first|exact⟨_,rfl⟩|cases l
 obtain rfl:v=.int h:=V;obtain rfl:Y=.int x:=h2;obtain rfl:Z=.int st:=h3;change(if -aT<=h/\x<=aT/\h<=aT/\-aT<=x/\0<st/\st<=aT then Res.ok ((bw (if h<x then((x-h-1)/st+1).toNat else 0)).map λ(i:Nat)=>ZU (h+i*st))else .no)=_ at l;split at l
 case isFalse=>cases l
 rename_i hn;cases l;cases T with
 |cons r rr=>
 cases rr with
 |cons r' rr=>
 cases rr with
 |cons r2 rr=>
 cases rr;obtain⟨t,rfl⟩:=r;obtain⟨t',rfl⟩:=r';obtain⟨t2,rfl⟩:=r2;have hc:=hn.2.2.2.2.1;refine call_range_3 (by omega) ?_ (.inl (PyProof.noPylong_small (by unfold aT at hn;omega)));refine qf (IsRange.new ..) (QF hc hn.1 hn.2.2.1 hn.2.1 hn.2.2.2.1 hn.2.2.2.2.2) ?_;rw[rangeSize_pos hc];generalize hR:u.heap.push {cls:=.type "range",data:=.fields #[.int h t,.int x t',.int st t2]}=n;have L:Inv X f C k {u with heap:=n}:=S.kept λb o e=>hR▸am _ e;have I3:Inv X f C k {u with heap:=n.push {cls:=.type "range_iterator",data:=.fields #[jw h,jw (uH h x st:Int),jw st]}}:=L.kept λb o e=>am _ e;refine⟨n.objs.size,[n.objs.size],_,_,k,rfl,I3,QE n.objs.size h st (uH h x st),?_,λb hb=>?_,q _ (λ_=>False) k sm (λ_ z=>z.elim) (QG ?_)⟩
 .show rj _ _ (h+((0:Nat):Int)*st) ((uH h x st:Int)-(0:Int)) st;have y:h+((0:Nat):Int)*st=h:=by simp
  rw[y];exact bx _ rfl
 .obtain rfl:b=n.objs.size:=by simpa using hb
  exact L.gZ (ak _) (L.hok.fresh (ak _))
 .have :=IQ hc hn.1 hn.2.1;rw[cb];unfold aT at this;omega
theorem zu9 (hc:CallR X (.type T) (z72 X.K m))(hm:X.mg x=Z8)(l:dk x=Z9 (.type T))(n:PA X (e::es) (tDA X.K fs))(c:((e::es).all fun e=>!isStar e)=Z7)(o:Gl X x)(hn:x≠"__name__")(f:Xv x):
  PE X (.Call (.Name x p) (e::es) [] pos) (tD X.K λg=>fs g>>=λi=>m (i.map (·.2))>>=λd=>.ok (gJ d .al,d)):=by
 refine PE.imp (zY hc hm l n c o hn f) λy H Q r=>?_;obtain⟨g,F,z,so,b,q⟩:=r;obtain⟨i,s,b⟩:=Res.aA b;obtain⟨d,t,b⟩:=Res.aA b;cases b;exact⟨g,F,i,so,s,λA B k rs=>⟨_,_,d,rs.kM so.aS,t,λw u v j=>q w u (k.trans v) (sN j λa h=>h.elim (λz=>(nw.back k z).aS so.aS) λz=>z)⟩⟩
theorem QI:CallR X (.type "int") (z72 X.K (iZ "int")):=by
 refine CallR.imp NZ λc H Q h=>?_;obtain⟨B,e,d,r,a,q⟩:=h;simp only[iZ,show("int":String)≠"len" by decide,show("int":String)≠"max" by decide,if_true,if_false]at a;split at a
 .rename_i i;cases a;obtain⟨v,rfl,b⟩:=yh r;obtain rfl:v=.int i:=b;exact .inl ⟨i,rfl,q _ H (Same.refl H) rfl⟩
 .rename_i k;cases a;obtain⟨v,rfl,b⟩:=yh r;obtain rfl:v=.bl k:=b;exact .inr ⟨k,rfl,q _ H (Same.refl H) rfl⟩
 .cases a
theorem zb6 (a:s.heap.IsTupleIter it t i)(m:s.heap.IsTuple t items)(o:items[i]?=Z9 x)
  (p:∀e,e.IsTupleIter it t (i+1)->gq it s.heap e->Q x {s with heap:=e}):wpAny (model prog w) A (ly (.ref it)) Q E s:=by
 have ty:=a.typeIs;obtain⟨⟨k,f,g,b⟩,c,hc,hd⟩:=a;obtain⟨⟨l,h,j,d⟩,to,tc,n,q⟩:=m;cases hc;cases hd;cases tc;cases q;apply ah;refine m8 ty F.slot_tuple_iterator_next (m7 F.slot_tuple_iterator_next ty F.entry_tuple_iterator_next ?_ (F.args_tuple_iterator_next_1 _));show wpAny _ _ (field (.ref it) 0>>=_) _ _ _;apply ah;refine ji c rfl rfl ?_;apply ah;refine ji c rfl rfl ?_;apply ah;refine o0 to rfl ?_
 dsimp only
 rw[fh i,o];apply ah;refine j9 c rfl (by simp) (bv ⟨x,rfl,bv (p _ ⟨_,g7 _ c rfl,rfl,?_⟩ (Heap.SameBut.update _ _ _))⟩);rfl
theorem z6b (hh:A.handled=Z8)(a:s.heap.IsTupleIter it t i)(q:s.heap.IsTuple t items)(r:items[i]?=Z8)
  (u:∀f e,Heap.ExtBut it s.heap f->(∃o,f.get? e=Z9 o/\o.cls=.type "StopIteration")->E (.ref e) {s with heap:=f}):wpAny (model prog w) A (ly (.ref it)) Q E s:=by
 have ty:=a.typeIs;obtain⟨⟨m,g,h,c⟩,j,hc,hd⟩:=a;obtain⟨⟨p,k,l,d⟩,to,tc,n,v⟩:=q;cases hc;cases hd;cases tc;cases v;apply ah;refine m8 ty F.slot_tuple_iterator_next (m7 F.slot_tuple_iterator_next ty F.entry_tuple_iterator_next ?_ (F.args_tuple_iterator_next_1 _));show wpAny _ _ (field (.ref it) 0>>=_) _ _ _;apply ah;refine ji j rfl rfl ?_;apply ah;refine ji j rfl rfl ?_;apply ah;refine o0 to rfl ?_
 dsimp only
 rw[fh i,r];apply ah;refine n8 ?_;apply ah;refine j9 j rfl (by simp) ?_
 delta Builtin.SmallTypes.stopIteration
 repeat (any_goals (first|assumption|wp_step))
 refine pp hh (u _ _ (λb o x e=>?_) ⟨_,bx _ rfl,rfl⟩);refine am _ (am _ ?_);rw[jo _ _ _ _ x];exact e
theorem QJ (hh:A.handled=Z8)(it t:Addr)(c:t≠it)(items:Array Value):Draws prog w A it [it,t] items.size (λi v=>items[i]?=Z9 v) (λi h=>h.IsTupleIter it t i/\h.IsTuple t items) where
 live:=λi h st=>let⟨⟨o,d,_⟩,_⟩:=st;⟨o,d⟩
 frame:=λi h f st k=>by obtain⟨⟨o,d,r⟩,b,a,e⟩:=st;exact⟨⟨o,k it (by simp) o d,r⟩,b,k t (by simp) b a,e⟩
 item:=λi l q u g st m=>by refine zb6 st.1 st.2 (l9 g) λf n j=>?_;obtain⟨b,a,e⟩:=st.2;exact m _ f l.toks (l9 g) ⟨n,b,j.extBut t b c a,e⟩ j
 done:=λs Q E st p=>z6b hh st.1 st.2 (Array.getElem?_eq_none (ak _)) p
def IsB (h:Heap)(l:Bool)(a:Addr)(xs:Array Value):Prop:=match l with
 |true=>h.IsList a xs
 |false=>h.IsTuple a xs
def pC (h:Heap)(l:Bool)(it a:Addr)(i:Nat):Prop:=match l with
 |true=>h.IsListIter it a i
 |false=>h.IsTupleIter it a i
def sR (K:Z5)(H:Hp)(l:Bool)(a:Addr)(vs:List V):Prop:=match l with
 |true=>SqL K H a vs
 |false=>dD K H a vs
def vW (K:Z5)(H:Hp)(B:Ad->Prop)(l:Bool)(a:Addr)(vs:List V):Prop:=match l with
 |true=>(H a=Z9 (.lst vs)/\B (Z9 a))\/(FL K H a vs/\B Z8)
 |false=>dD K H a vs
abbrev eR (l:Bool)(a:Addr):Obj:={cls:=.type (if l then "list_iterator"else "tuple_iterator"),data:=.fields #[.ref a,.int 0 0]}
theorem vW.keep {K:Z5}(h:vW K H B l a c)(k:Kp B H d):sR K d l a c:=by
 cases l with
 |true=>
  rcases h with⟨h,b⟩|⟨⟨o,h⟩|h,_⟩
  .exact .inl (.inl (k a _ h (.inl b)))
  .exact .inl (.inr ⟨o,k a _ h (.inr True.intro)⟩)
  .exact .inr h
 |false=>exact dD.keep k h
theorem vW.of {K:Z5}(r:Rep K H B v d)(e:seqR d=.ok c):∃l a b,v=.ref a/\vW K H B l a b/\Reps K H B b c/\c.length<=aT:=by
 cases d<;>try (exact(eW e).elim)
 case list ds=>
  have e:(if decide (ds.length<=aT)=Z7 then Res.ok ds else Res.no)=Res.ok c:=e;split at e
  .rename_i hc;cases e;obtain⟨a,b,rfl,h,rs⟩:=r;exact⟨Z7,a,b,rfl,h,rs,t8 hc⟩
  .cases e
 case tuple ds=>
  have e:(if decide (ds.length<=aT)=Z7 then Res.ok ds else Res.no)=Res.ok c:=e;split at e
  .rename_i hc;cases e;obtain⟨a,b,rfl,h,rs⟩:=r;exact⟨Z6,a,b,rfl,h,rs,t8 hc⟩
  .cases e
theorem sR.items (I:Inv X d f H s)(h:sR X.K H l a e):∃b,Vals e b/\IsB s.heap l a b.toArray/\e.length=b.length:=by
 cases l with
 |true=>obtain⟨b,c,p,_⟩:=I.list h;exact⟨b,c,p.isList,c.length⟩
 |false=>obtain⟨b,c,p,_⟩:=I.tuple h;exact⟨b,c,p,c.length⟩
theorem IS (hh:A.handled=Z8)(l:Bool)(it a:Addr)(b:a≠it)(items:Array Value):Draws prog w A it [it,a] items.size (λi v=>items[i]?=Z9 v) (λi h=>pC h l it a i/\IsB h l a items):=by
 cases l with
 |true=>exact Draws.list hh it a b items
 |false=>exact QJ hh it a b items
theorem pC.live (x:pC h l it a i):∃o,h.get? it=Z9 o/\∀v,o.data≠.cell v:=by cases l<;>(obtain⟨o,b,_,hd⟩:=x;exact⟨o,b,λv z=>by rw[hd]at z;cases z⟩)
theorem pC.keep (x:pC h l it a i)(k:∀o,h.get? it=Z9 o->b.get? it=Z9 o):pC b l it a i:=by cases l<;>(obtain⟨o,c,r⟩:=x;exact⟨o,k o c,r⟩)
theorem pC.new (x:h.get? it=Z9 (eR l a)):pC h l it a 0:=by cases l<;>exact⟨_,x,rfl,rfl⟩
theorem IsB.lt (x:IsB h l a c):a<h.objs.size:=by cases l<;>(obtain⟨o,b,_⟩:=x;exact bn b)
theorem IT (h:IsB s.heap l a c)(b:Q (.ref s.heap.objs.size) {s with heap:=s.heap.push (eR l a)}):wpAny (model prog w) A (ri (.ref a)) Q E s:=by
 cases l with
 |true=>exact mf h b
 |false=>exact qh h b
theorem _root_.L2.Inv.turnedTL {h:List Addr}(I:Inv X a l H s)(f:∀b∈h,FpOk X a H b)(keep:∀b q,b∉h->s.heap.get? b=Z9 q->i.get? b=Z9 q)(j:s.heap.objs.size<=p)
  (new:z1b X.prog X.w (upd H p (.tup xs)) i p (.tup xs)):Inv X a l (upd H p (.tup xs)) {s with heap:=i,toks:=t'}:=by
 have hn:=I.hok.fresh j;have d:∀b u,H b=Z9 u->b∉h:=λb u k z=>by rw[(f b z).1]at k;cases k
 refine I.step (λb g=>?_) (λb q _ _ hc e _=>keep b q hc e) (λb q _ _ hc e _=>⟨q.slots,keep b q hc e⟩) (λb q _ e n=>by rw[aG (cv (ci (bn e) j))];exact n) (λb q hc e=>⟨q,keep b q hc e⟩) (λb xs q=>by rw[aG (bR q hn)];exact q) (λb u xs q=>by rw[aG (bR q hn)];exact q) (λb ps q=>⟨#[],by rw[aG (bR q hn),q];simp⟩) (λm hm=>?_) (λb u e=>?_) I.bare
 .obtain⟨y,o,A,r,t,x⟩:=f b g;exact⟨r,o,t,x⟩
 .exact hm.at λq e=>keep _ q (λz=>(f _ z).2.1 rfl) e
 .by_cases g:b=p
  .subst g;rw[bF]at e;cases e;exact new
  .rw[aG g]at e;refine(I.hok b u e).stay (λc v hc q=>keep c v ?_ q) (λc q=>by rw[aG (bR q hn)];exact q) λc xs q=>by rw[aG (bR q hn)];exact q
   rcases hc with rfl|hc
   .exact d _ _ e
   .exact d _ _ hc
theorem _root_.L2.Inv.qE {g:List Addr}(I:Inv X a j H s)(f:∀b∈g,FpOk X a H b)(keep:∀b q,b∉g->s.heap.get? b=Z9 q->k.get? b=Z9 q):Inv X a j H {s with heap:=k,toks:=t'}:=by
 have d:∀b u,H b=Z9 u->b∉g:=λb u h z=>by rw[(f b z).1]at h;cases h
 refine I.step (λb l=>?_) (λb q _ _ hc e _=>keep b q hc e) (λb q _ _ hc e _=>⟨q.slots,keep b q hc e⟩) (λb q _ e n=>n) (λb q hc e=>⟨q,keep b q hc e⟩) (λb i q=>q) (λb u i q=>q) (λb ps q=>⟨#[],by rw[q];simp⟩) (λm hm=>?_) (λb u e=>?_) I.bare
 .obtain⟨w,o,x,p,r,t⟩:=f b l;exact⟨p,o,r,t⟩
 .exact hm.at λq e=>keep _ q (λz=>(f _ z).2.1 rfl) e
 .refine(I.hok b u e).stay (λc v hc q=>keep c v ?_ q) (λc q=>q) λc i q=>q;rcases hc with rfl|hc
  .exact d _ _ e
  .exact d _ _ hc
theorem QK (f:Vals b a)(d:i<b.length)(g:a.toArray[i]?=Z9 x):∃v,b[i]?=Z9 v/\RelV v x:=by
 refine⟨b[i],ac d,?_⟩;obtain⟨u,e,h⟩:=f.get (ac d);have c:a[i]?=Z9 x:=by simpa using g
 rw[c]at e;cases e;exact h
def DD (K:Z5)(l:Bool)(t:Addr)(vs:List V):It:=⟨λi H=>sR K H l t vs/\i<vs.length,λi H x H'=>∃p v,vs[i]?=Z9 v/\H p=Z8/\x=.ref p/\H'=upd H p (.tup [.int i,v]),λi H=>sR K H l t vs/\i=vs.length⟩
theorem zfh {K:Z5}(U:t≠it)(V:t≠e)(B:e≠it):
  Turn P w K (.Tuple j x1 pos) (DD K l t vs) [e,it] e (λi h=>(∃old,IsEnum h e it i old)/\pC h l it t i) where
 mem:=by simp
 obj:=λi h st b c=>by
  obtain⟨⟨old,d⟩,a⟩:=st;rcases(bq.mp c)with rfl|c
  .exact⟨_,d,λv z=>by cases z⟩
  .obtain rfl:b=it:=by simpa using c
   exact a.live
 keep:=λi h G st k=>by obtain⟨⟨old,d⟩,a⟩:=st;exact⟨⟨old,k e (by simp) _ d⟩,a.keep λo=>k it (by simp) o⟩
 item:=by
  intro X J L M hc i m s σ H E I hf st N;subst J L M;obtain⟨O,Q⟩:=N;obtain⟨⟨old,d⟩,a⟩:=st;obtain⟨g,Y,p,Z⟩:=sR.items I O;have R:X.A.in1.handled=none:=I.ok.hd hc;have D:=IS (prog:=X.prog) (w:=X.w) R l it t U g.toArray;obtain⟨oi,S,_⟩:=a.live;refine wpAny_pyNext_enum_itemD D d ⟨a,p⟩ (by grind) B (by simp[B,Ne.symm V]) λx G C hx n T r W8 kp=>⟨_,rfl,?_⟩;have F:s.heap.objs.size≠e/\s.heap.objs.size≠it:=⟨λz=>dm _ (z▸bn d),λz=>dm _ (z▸bn S)⟩;refine(WalksT.enumerateD D e B (by simp[B,Ne.symm V]) (by simp)).go j x1 pos i s.heap.objs.size {s with heap:=G,toks:=C+1} _ _ ⟨⟨x,n⟩,T,F.1,F.2⟩ λW9 f u=>?_;have y:s.heap.objs.size∉ [e,it]:=by simp[F.1,F.2]
  obtain⟨v,hv,rx⟩:=QK Y Q hx;have I1:=I.turnedTL (t':=C+1) (xs:=[.int i,v]) hf (λb q c z=>u b q c (kp b q (λz=>c (by simp[z])) (λz=>c (by simp[z])) z)) (ak _) ⟨by rw[cb];simp,[.int i C,x],.cons ⟨C,rfl⟩ (.cons rx .nil),0,(u s.heap.objs.size _ y r)⟩;refine⟨.ref s.heap.objs.size,_,I1,rfl,⟨_,v,hv,I.hok.fresh (ak _),rfl,rfl⟩,⟨f.1,f.2.1⟩,λb c=>?_⟩;rw[aG λz:b=s.heap.objs.size=>y (z▸c)];exact(hf b c).1
 done:=by intro X J L M hc i m s σ H E I hf st N;subst J L M;obtain⟨O,Q⟩:=N;obtain⟨⟨old,d⟩,a⟩:=st;obtain⟨g,Y,p,Z⟩:=sR.items I O;have R:X.A.in1.handled=none:=I.ok.hd hc;exact wpAny_pyNext_enum_endD (IS (prog:=X.prog) (w:=X.w) R l it t U g.toArray) d ⟨by rw[c8,<-Z,<-Q];exact a,p⟩ λG eb=>⟨rfl,I.qE hf λb o c z=>eb b o (λq=>c (by simp[q])) z⟩
 self:=λ_ _ _ _ _ st h=>by obtain⟨⟨old,d⟩,_⟩:=st;exact qx d h
theorem DE:∀a (k i:Nat),(z2g k a)[i]?=(a[i]?).map λx=>.tuple [.int ((k+i:Nat):Int),x]
 | [],k,i=>by simp[z2g]
 |x::a,k,0=>by simp[z2g]
 |x::a,k,i+1=>by
  rw[z2g,gh,gh,DE a (k+1) i];have:k+1+i=k+(i+1):=by omega
  rw[this]
theorem Ao:∀a k,(z2g k a).length=a.length
 | [],_=>rfl
 |x::a,k=>by rw[z2g,bh,bh,Ao a]
theorem QL {K:Z5}(b:vW K H B l t c)(rs:Reps K H B c g)(n:g.length<=ba):Walk K (DD K l t c) B H (z2g 0 g):=by
 have o:=rs.length;constructor
 .rw[Ao];exact n
 .intro j kp i h;rw[Ao]at h;exact⟨b.keep kp,by omega⟩
 .intro j kp;exact⟨b.keep kp,by rw[Ao];exact o.symm⟩
 .rintro j kp i x u h ⟨p,v,r,k,rfl,rfl⟩
  obtain⟨d,hd,s⟩:=Reps.pX rs r;refine⟨Same.upd k,.tuple [.int i,d],by rw[DE,hd];simp,p,[.int i,v],rfl,dD.of bF,?_⟩;refine Reps.cons rfl (Reps.cons ?_ rfl);exact Rep.keep (λa q e f=>by have m:=kp a q e f;rw[aG (bR m k)];exact m) (λ_ z=>z) d s
theorem zbk (l:Bool)(t:Addr)(items:Array Value):Meets (Builtin.«enumerate.__new__» {pos:=[.type "enumerate",.ref t]}) fun _ R s=>
  IsB s.heap l t items/\R (.ok (.ret (.ref (s.heap.push (eR l t)).objs.size))) {s with heap:=(s.heap.push (eR l t)).push {cls:=.type "enumerate",data:=.fields #[.none,.bool Z6,.ref s.heap.objs.size,jw 0,.none,.none]}}:=by
 rintro prog w A R s ⟨a,d⟩
 have sub:=sub_enumerate
 delta Builtin.«enumerate.__new__»
 repeat (any_goals (first|assumption|(apply IT a)|wp_step))
 refine wpAny_stack λst _ _ _=>?_;refine ez (Q:=λ_ c=>c=s) (bv rfl) (λb c hs=>?_) λ_ _ x=>x;subst hs;cases b
 all_goals repeat (any_goals (first|assumption|(apply IT a)|wp_step))
 all_goals exact d
theorem zgh (a:IsB s.heap l t items)
  (b:Q (.ref (s.heap.push (eR l t)).objs.size) {s with heap:=(s.heap.push (eR l t)).push {cls:=.type "enumerate",data:=.fields #[.none,.bool Z6,.ref s.heap.objs.size,jw 0,.none,.none]}}):wpAny (model prog w) A (call (.type "enumerate") [.ref t]) Q E s:=by
 refine callType_new F.called_enumerate dc (F.typeCall_enumerate_1 _) (F.newCall_enumerate_1 _) (λobj=>?_) F.entry_enumerate_new (zbk l t items) ⟨a,⟨_,bx _ rfl,rfl⟩,b⟩;exact F.args_object_init_2 _ _
theorem z4l (k:Inv X a m f c)(C:RelV y v)(D:Rep X.K f B y d)(e:seqR d=.ok E)(q:∀J,Walk X.K J B f (z2g 0 E)->R J f):
  wpAny (model X.prog X.w) X.A (call (.type "enumerate") [v]) (λF G=>wpAny (model X.prog X.w) X.A (ri F) (xm X a m (.Tuple u O tp) R) X.xe G) X.xe c:=by
 obtain⟨l,t,H,rfl,x,n,I⟩:=vW.of D e;cases C;obtain⟨L,M,pt,_⟩:=sR.items k (x.keep (Kp.of (Same.refl f)));refine zgh pt ?_;generalize p:c.heap.push (eR l t)=i;have j:i.objs.size=c.heap.objs.size+1:=p▸size_push' _ _;have r:Inv X a m f {c with heap:=i}:=k.kept λb o e=>p▸am _ e;generalize g:i.push {cls:=.type "enumerate",data:=.fields #[.none,.bool Z6,.ref c.heap.objs.size,jw 0,.none,.none]}=h;have N:Inv X a m f {c with heap:=h}:=r.kept λb o e=>g▸am _ e;have g1:h.get? i.objs.size=Z9 {cls:=.type "enumerate",data:=.fields #[.none,.bool Z6,.ref c.heap.objs.size,jw 0,.none,.none]}:=g▸bx _ rfl;have g2:h.get? c.heap.objs.size=Z9 (eR l t):=by rw[<-g];refine am _ ?_;rw[<-p];exact bx _ rfl
 have z:=pt.lt;refine qx g1 (⟨i.objs.size,[i.objs.size,c.heap.objs.size],_,DD X.K l t H,f,rfl,N,zfh (cv z) (cv (lv z (j▸iu _))) (j▸Nat.succ_ne_self _),⟨⟨.none,g1⟩,pC.new g2⟩,λb s=>?_,q _ (QL x n (qC I))⟩);rcases(bq.mp s)with rfl|s
 .exact r.gZ (ak _) (r.hok.fresh (ak _))
 .obtain rfl:b=c.heap.objs.size:=by simpa using s
  exact k.gZ (ak _) (k.hok.fresh (ak _))
theorem DF:dk "enumerate"=Z9 (.type "enumerate"):=by decide+kernel
theorem IU (hs:isStar a=Z6)(c:PE X a (tD X.K fa)):PA X [a] (tDA X.K λb=>fa b>>=λx=>.ok [x]):=by refine PA.imp (Io hs c Im) λg H Q ⟨b,F,z,so,e,q⟩=>⟨b,F,z,so,?_,q⟩;obtain⟨x,d,e⟩:=Res.aA e;show(fa b>>=λx=>Res.ok []>>=λf=>Res.ok (x::f))=_;rw[d];exact e
theorem QM {fs:Rho->Res GD}(h:(fs a>>=λx=>Res.ok [x])=.ok b):∃x,fs a=.ok x/\b=[x]:=by obtain⟨x,e,h⟩:=Res.aA h;cases h;exact⟨x,e,rfl⟩
theorem QN {K:Z5}(so:StOk K F H j k)(hc:z6 x=Z7)(e:seqR x.2=.ok l)(c:Rep K f (BG F H x.1) v x.2):∃B,Rep K f B v x.2/\(∀a,B (Z9 a)->F.O a=Z8)/\∀a,B a->BI F .al a:=by
 obtain⟨g,d⟩:=x;cases d<;>try (exact(eW e).elim)
 case list ds=>
  have b:g≠.al:=λz=>by subst z;cases hc
  exact⟨_,c,λa h=>Dx so b h,λa h=>BI.of so.aS (BG.aS so.aS h)⟩
 case tuple ds=>
  rcases fi.mp hc with b|i
  .have b:g≠ .al:=λz=>by subst z;cases b
   exact⟨_,c,λa h=>Dx so b h,λa h=>BI.of so.aS (BG.aS so.aS h)⟩
  .exact⟨λ_=>False,Rep.aW _ i c,λ_ h=>h.elim,λ_ h=>h.elim⟩
theorem QO (hm:X.mg "enumerate"=Z8)(k:Gl X "enumerate")(hs:isStar a=Z6)(l:PE X a (tD X.K fa)):PI X (.Tuple h x1 tp) (.Call (.Name "enumerate" p) [a] [] pos) (tDW X.K λf=>fa f>>=λx=>seqR x.2>>=λi=>.ok (.al,z2g 0 i)):=by
 rintro b s m H R I ⟨f,F,w,so,e,q⟩
 obtain⟨x,n,e⟩:=Res.aA e;obtain⟨i,o,e⟩:=Res.aA e;cases e;refine Call_ (z2p I k hm DF (PyProof.Rows.callWith_type1 (aM (IU hs l pos b s m H (λg d=>Same H d/\eV X.K F H d g [x]) I ⟨f,F,[x],so,by show(fa f>>=λx=>Res.ok [x])=_;rw[n];rfl,λg d j rs=>⟨j,rs⟩⟩) ?_) (eQ hs) rfl))
 rintro C j ⟨g,d,r,t,sm,rs⟩
 obtain⟨v,rfl,y⟩:=rs.one;obtain⟨u,rfl,A⟩:=vals1 t;exact z4l r A (Rep.there _ y) o λJ B=>q J _ d sm (λc z=>⟨BG.aS so.aS z.1,z.2⟩) B
theorem QP (hm:X.mg "enumerate"=Z8)(l:Gl X "enumerate")(hs:isStar a=Z6)(m:PE X a (tD X.K fa)):PI X (.Tuple g M tp) (.Call (.Name "enumerate" p) [a] [] pos) (tDF X.K λb=>(fa b>>=λx=>.ok [x])>>=λh=>pW h b):=by
 rintro c s n H R I ⟨b,F,w,so,e,q⟩
 obtain⟨h,o,e⟩:=Res.aA e;obtain⟨x,r,rfl⟩:=QM o;have e:(if z6 x=Z7 then(seqR x.2>>=λi=>Res.ok (G.al,z2g 0 i,b))else Res.no)=Res.ok w:=e;split at e
 case isFalse=>cases e
 rename_i hc;obtain⟨i,j,e⟩:=Res.aA e;cases e;refine Call_ (z2p I l hm DF (PyProof.Rows.callWith_type1 (aM (IU hs m pos c s n H (λf d=>Same H d/\eV X.K F H d f [x]) I ⟨b,F,[x],so,by show(fa b>>=λx=>Res.ok [x])=_;rw[r];rfl,λf d k rs=>⟨k,rs⟩⟩) λN k ⟨f,d,t,y,sm,rs⟩=>?_) (eQ hs) rfl));obtain⟨v,rfl,z⟩:=rs.one;obtain⟨u,rfl,A⟩:=vals1 y;obtain⟨B,C,D,E⟩:=QN so hc j z;exact z4l t A C j λJ L=>q J B d F sm Run.refl (dE.same sm) (so.same sm) D E L
abbrev sS:List Value:=[.type "ValueError",.type "Exception",.type "BaseException",.type "object"]
def gL (K:Z5)(C:Addr):Bool:=match K.lookup C with
 |some ⟨.type "type",_,.cls cd,sl⟩=>(match cd.mro,sl.toList with
  |.ref D::bm,[_,_,_,_,Z9 (.builtin n),_]=>(D==C)&&(n=="ValueError.__new__")&& !cd.hasDel&&W.tailIn K sS bm&&W.nsOkIn K cd.ns
  |_,_=>Z6)
 |_=>Z6
def IV (K:Z5)(C:Addr):Bool:=match K.lookup C with
 |some ⟨_,_,.cls c,_⟩=>ZY K c.ns "__init__"==Z9 Z8
 |_=>Z6
abbrev exV (K:Z5)(C:Addr):Bool:=gL K C&&IV K C
def XC (C:Addr)(h:Heap)(bm:List Value):Prop:=∃N nm q bs hdct sn sub ab col dd k0 k1 k2 k3 k5 mN,h.get? C=Z9 (mi nm q C N bs bm hdct sn sub ab col dd k0 k1 k2 k3 k5 "ValueError.__new__")/\h.Ns N mN/\ph h sS bm
def DG (C:Addr)(h:Heap)(bm:List Value):Prop:=∃N nm q bs hdct sn sub ab col dd k0 k1 k2 k3 k5 mN,h.get? C=Z9 (mi nm q C N bs bm hdct sn sub ab col dd k0 k1 k2 k3 k5 "ValueError.__new__")/\h.Ns N mN/\mN "__init__"=Z8/\ph h sS bm
theorem yj:(a&&b)=Z7->a=Z7/\b=true:=au.mp
theorem Ap {K:Z5}{C:Addr}(q:exV K C=Z7):gL K C=Z7/\∀a cd sl,K.lookup C=Z9 ⟨.type "type",a,.cls cd,sl⟩->ZY K cd.ns "__init__"=Z9 none:=by obtain⟨a,b⟩:=yj q;refine⟨a,λd c g e=>?_⟩;unfold IV at b;rw[e]at b;exact uc b
theorem vX {K:Z5}{C:Addr}(q:gL K C=Z7):∃a cd bm h i j k l,K.lookup C=Z9 ⟨.type "type",a,.cls cd,#[h,i,j,k,Z9 (.builtin "ValueError.__new__"),l]⟩/\cd.mro=.ref C::bm/\cd.hasDel=Z6/\W.tailIn K sS bm=Z7/\W.nsOkIn K cd.ns=true:=by
 unfold gL at q;split at q
 .rename_i a cd sl m;split at q
  .rename_i A bm b c d e n f hm hs;obtain⟨q,o⟩:=yj q;obtain⟨q,p⟩:=yj q;obtain⟨q,g⟩:=yj q;obtain⟨r,s⟩:=yj q;have t:sl=#[b,c,d,e,Z9 (.builtin n),f]:=Array.toList_inj.mp (by rw[hs]);refine⟨a,cd,bm,b,c,d,e,f,?_,?_,?_,p,o⟩
   .rw[m,t,uc s]
   .rw[hm,uc r]
   .cases hd:cd.hasDel with
    |false=>rfl
    |true=>rw[hd]at g;cases g
  .cases q
 .cases q
theorem IW {K:Z5}{C:Addr}(a:K.lookup C=Z9 ⟨.type "type",c,.cls cd,sl⟩)(hm:cd.mro=.ref C::bm)(e:ZX K (.ref C) v=Z9 b):(ZS C::bm).contains v=b:=by
 have e:W.mroIn K C v=Z9 b:=e;unfold W.mroIn W.clsIn at e;rw[a]at e
 dsimp at e
 rw[hm]at e;exact tz e
theorem XC.mk {K:Z5}{C:Addr}(X:K.In h)(q:gL K C=Z7):∃bm,XC C h bm/\∀v b,ZX K (.ref C) v=Z9 b->(ZS C::bm).contains v=b:=by
 obtain⟨d,cd,bm,f,g,i,j,k,a,hm,hd,l,m⟩:=vX q;refine⟨bm,⟨cd.ns,cd.name,cd.qualname,cd.bases,cd.hasDict,cd.slotNames,cd.subclasses,cd.abstract,cd.collection,d,f,g,i,j,k,h.nsMap cd.ns,?_,.of_isNs (W.isNs_of_in X m),W.tail_of_in X l⟩,λv b e=>IW a hm e⟩;have c:=X _ _ a;cases cd
 dsimp only at hm hd
 rw[hm,hd]at c;exact c
theorem DG.mk {K:Z5}{C:Addr}(X:K.In h)(q:exV K C=Z7):∃bm,DG C h bm:=by
 obtain⟨d,e⟩:=Ap q;obtain⟨f,cd,bm,g,i,j,k,l,a,hm,hd,m,b⟩:=vX d;refine⟨bm,cd.ns,cd.name,cd.qualname,cd.bases,cd.hasDict,cd.slotNames,cd.subclasses,cd.abstract,cd.collection,f,g,i,j,k,l,h.nsMap cd.ns,?_,.of_isNs (W.isNs_of_in X b),W.nsMap_none_of_in X b (e _ _ _ a),W.tail_of_in X m⟩;have c:=X _ _ a;cases cd
 dsimp only at hm hd
 rw[hm,hd]at c;exact c
section
variable {M:Model}{A:gn}{E:Value->bb->Prop}{h:Heap}{g:Array qy}{d:Drawn}{t:Nat}{os:k7}{C B e:Addr}{bm Aq:List Value}{oe:Obj}{Q:Bool->bb->Prop}
theorem IX (T:ph h sS l):l.contains (.type "BaseException")=true:=T.hasType rfl
theorem QQ (i:XC C h bm)(j:XC B h Aq)(k:h.get? e=Z9 oe)(hc:oe.cls=.ref C)(a:(ZS C::bm).contains (.ref B)=Z7)(l:Q Z7 ⟨h,g,d,t,os⟩):wpAny M A (tm (.ref e) (.ref B)) Q E ⟨h,g,d,t,os⟩:=by
 obtain⟨_,_,_,_,_,_,_,_,_,_,_,_,_,_,_,_,m,_,_⟩:=i;obtain⟨_,_,_,_,_,_,_,_,_,_,_,_,_,_,_,_,c,_,tB⟩:=j;have b:(ZS B::Aq).contains (.type "BaseException")=true:=by rw[jy,IX tB,oa]
 have f:=tc_notTuple
 repeat (first|(with_reducible refine cf k ?_;rw[hc])|with_reducible refine cf c ?_|(with_reducible refine ip c ?_;rw[b])|(with_reducible refine ip m ?_;rw[a])|wp_step)
 exact l
end
section
variable {prog:cu}{w:World}{A:gn}{E:Value->bb->Prop}{K:Z5}{h:Heap}{g:Array qy}{d:Drawn}{t:Nat}{os:k7}{C e:Addr}{oe:Obj}
structure XA (K:Z5)(C:Addr):Prop where
 cl:Z4 K (.ref C) "__class__"=Z9 (Z9 (.builtin "object.__class__"))
 ga:Z4 K (.ref C) "__getattribute__"=Z9 (Z9 (.builtin "BaseException.__getattribute__"))
 gt:Z4 K (.ref C) "__getattr__"=Z9 Z8
 ob:ZX K (.ref C) (.type "object")=Z9 Z7
 be:ZX K (.ref C) (.type "BaseException")=Z9 Z7
 ty:W.typeIn K (.ref C)=Z9 (.type "type")
 is:(W.clsIn K C).isSome=Z7
 ex:gL K C=Z7
theorem z7d (a:h.get? e=Z9 oe)(hc:oe.cls=.ref C):W.Looks M h (tu (.ref e)) (.ref C):=by intro A Q E s k q;refine ah (wpAny_loadPart (k _ _ a) ?_);rw[hc];exact bv q
theorem zw4 (X:K.In h)(a:XA K C)(b:h.get? e=Z9 oe)(hc:oe.cls=.ref C)(c:R (.ok (.ret (.ref C))) ⟨h,g,d,t,os⟩):
  jl (model prog w) A (.call (.builtin "getset_descriptor.__get__") ⟨[.builtin "object.__class__",.ref e,tp],[]⟩) R ⟨h,g,d,t,os⟩:=by
 have f:=z7d (M:=model prog w) b hc;have i:=W.looks_subIn (M:=model prog w) X a.ob;refine jj W.KF.slot_gs.plain W.KF.entry_gs (W.KF.slot_gs.check _ _ _ _ _ _ _ _ W.KF.type_class (W.KF.args_gs _ _ _) (ah (bv ?_)));unfold Builtin.Getset_descriptor.descrGetter Builtin.Getset_descriptor.descrCheckInstance Builtin.Getset_descriptor.descrNameAndClass qi;simp only[W.KF.owner_class]
 repeat lk
 refine⟨Code.quiet_builtin _ (by decide+kernel),?_⟩;refine ol W.KF.entry_class ?_;unfold Builtin.«object.__class__»;unfold shownTypeOf;repeat lk
 exact c
theorem zkv {tk:Tok}{Q:Fin->bb->Prop}(X:K.In h)(a:XA K C)(he:h.get? e=Z9 oe)(hc:oe.cls=.ref C)(hq:Q (.done (.ret (.ref C))) ⟨h,g,d,t,os⟩):
  wpAny (model prog w) A (Builtin.«object.__getattribute__» ⟨[.ref e,.str "__class__" tk],[]⟩) Q E ⟨h,g,d,t,os⟩:=by
 have hT:(⟨h,g,d,t,os⟩:bb).TypeIs (.builtin "object.__class__") "getset_descriptor":=F.typeOf_object_class;have⟨f5,f6,f7⟩:=And.intro F.typeOf_object_class (And.intro F.slot_gs_get.lookup F.slot_gs_set.lookup);have l0:=Z3 (M:=model prog w) X a.cl
 repeat (any_goals (first|assumption|(with_reducible refine cf he ?_;rw[hc])|with_reducible refine l0.at ?_|wp_step))
 refine zw4 X a he hc ?_
 repeat' first|assumption|wp_step
theorem x_call {b:Tok}{R:Result->bb->Prop}(X:K.In h)(a:XA K C)(c:h.get? e=Z9 oe)(hc:oe.cls=.ref C)(f:R (.ok (.ret (.ref C))) ⟨h,g,d,t,os⟩):
  jl (model prog w) A (.call (.builtin "BaseException.__getattribute__") ⟨[.ref e,.str "__class__" b],[]⟩) R ⟨h,g,d,t,os⟩:=by
 refine jj F.excAttr_ValueError.ga.plain F.entry_bexc_ga ?_;have i:=W.looks_subIn (M:=model prog w) X a.be;have l:=F.args_bexc_ga (.ref e) (.str "__class__" b);have j:rq "BaseException.__getattribute__"=Z9 .slot:=by decide+kernel
 have k:splitId "BaseException.__getattribute__"=Z9 ("BaseException","__getattribute__"):=by decide+kernel
 simp only[kr,j,k];refine ah ?_;unfold qi
 repeat (first|(with_reducible refine zkv X a c hc ?_;exact f)|(with_reducible refine cf c ?_;rw[hc])|with_reducible refine i.at ?_|wp_step)
theorem x_by (X:K.In h)(a:XA K C)(b:h.get? e=Z9 oe)(hc:oe.cls=.ref C)(c:Q (.ref C) ⟨h,g,d,t,os⟩):
  wpAny (model prog w) A (getAttrBy (.ref e) (.str "__class__" f) Z6) Q E ⟨h,g,d,t,os⟩:=by
 have i:=F.excAttr_ValueError.ga.bind (.ref e)
 repeat (any_goals (first|assumption|(with_reducible refine cf b ?_;rw[hc])|with_reducible refine(Z3 (M:=model prog w) X a.ga).at ?_|with_reducible refine(Z3 (M:=model prog w) X a.gt).at ?_|wp_step))
 refine x_call X a b hc ?_
 repeat' first|assumption|wp_step
theorem QR (X:K.In h)(a:XA K C)(b:h.get? e=Z9 oe)(hc:oe.cls=.ref C)(c:Q (Z9 (.ref C)) ⟨h,g,d,t+1,os⟩):wpAny (model prog w) A (qw (.ref e) "__class__") Q E ⟨h,g,d,t,os⟩:=by repeat (any_goals (first|assumption|with_reducible apply x_by X a b hc|wp_step))
theorem QS (q:gL K C=Z7)(e:ZX K (.ref C) (.ref C)=Z9 b):b=true:=by obtain⟨c,cd,bm,d,f,g,h,i,a,hm,_⟩:=vX q;rw[<-IW a hm e,jy,beq_self_eq_true,Bool.true_or]
structure XV (K:Z5)(v:Value):Prop where
 ty:∀(M:Model) (h:Heap),K.In h->W.Looks M h (tu v) (.type "type")
 is:∀(M:Model) (h:Heap),K.In h->W.Looks M h (isType v) Z7
theorem IY {D:Addr}(X:K.In h)(q:(W.clsIn K D).isSome=Z7):W.Looks M h (isType (.ref D)) true:=by
 unfold W.clsIn at q;split at q
 .rename_i a;intro A Q E s k z;refine ah (wpAny_load (k _ _ (X _ _ a)) ?_);exact bv z
 .cases q
theorem XV.own {D:Addr}(t:W.typeIn K (.ref D)=Z9 (.type "type"))(q:(W.clsIn K D).isSome=Z7):XV K (.ref D):=⟨λM h X=>W.looks_typeIn X t,λM h X=>IY X q⟩
theorem XV.val:XV K (.type "ValueError"):=⟨λM h X=>W.Looks.of_pure (by kernel_rfl),λM h X=>W.Looks.of_pure rfl⟩
theorem zsk (X:K.In h)(a:XA K C)(c:h.get? e=Z9 oe)(hc:oe.cls=.ref C)(f:XV K v)(hs:ZX K (.ref C) v=Z9 b)(i:Q (.done (.ret (.bool b))) ⟨h,g,d,t,os⟩)(l:Q (.done (.ret (.bool b))) ⟨h,g,d,t+1,os⟩):
  wpAny (model prog w) A (Builtin.«isinstance.nested» ⟨[.ref e,v,.int m o],[]⟩) Q E ⟨h,g,d,t,os⟩:=by
 have j:=z7d (M:=model prog w) c hc;have k:=W.looks_subIn (M:=model prog w) X hs;unfold Builtin.«isinstance.nested»;refine ah (j.at ?_);by_cases q:(ZS C==v)=true
 .rw[tw q];have n:b=true:=by cases uc q;exact QS a.ex hs
  subst n;exact ah (n8 (ah (bv (bv i))))
 .rw[tx q];refine ah ((f.ty (model prog w) h X).at ?_)
  k_delta "plainIsInstance"
  refine ah (ah ((f.is (model prog w) h X).at ?_));refine ah ((j.andThen k).at ?_);cases b with
  |true=>exact bv (bv i)
  |false=>refine ah (QR X a c hc ?_);refine ah ((IY (M:=model prog w) X a.is).at ?_);refine ah (n8 ?_);exact k.at (bv l)
theorem zuj (X:K.In s.heap)(a:XA K C)(i:s.heap.get? e=Z9 oe)(hc:oe.cls=.ref C)(j:XV K v)(hs:ZX K (.ref C) v=Z9 b)(k:∀f,Q (.bool b) {s with toks:=f}):
  wpAny (model prog w) A (call (.builtin "isinstance") [.ref e,v]) Q E s:=
 call_isinstance (S:=λ_ R s=>(K.In s.heap/\s.heap.get? e=Z9 oe)/\∀f,R (.ok (.ret (.bool b))) {s with toks:=f}) (λ_ _ _ _ s c=>isinstance_outer (by obtain⟨h,g,d,t,os⟩:=s;exact zsk c.1.1 a c.1.2 hc j hs (c.2 t) (c.2 (t+1))) nofun) ⟨⟨X,i⟩,k⟩
end
theorem QT (f:Array Value->Array Value)(o:Obj):(Obj.mapFields f o).dict=o.dict:=by unfold Obj.mapFields;split<;>rfl
def TrD (h base:Heap)(e:Addr)(cls:Value)(dd:Option Addr)(fl:Value):Prop:=∃ob vs T tr ts,h.get? e=Z9 ob/\ob.cls=cls/\ob.dict=dd/\ob.data=.fields vs/\vs[1]?=Z9 (.ref T)/\base.get? T=Z8/\T≠e/\h.get? T=Z9 tr/\tr.data=.fields ts/\ts[3]?=Z9 fl
def FlD (base:Heap)(l:List Env)(e:Addr)(cls:Value)(dd:Option Addr)(h:Heap):Prop:=base.StaysIn h/\base.get? e=Z8/\h.FunFrames base l/\TrD h base e cls dd .none
def IZ (base:Heap)(l:List Env)(e:Addr)(cls:Value)(dd:Option Addr)(L:Addr)(h:Heap):Prop:=base.StaysIn h/\base.get? e=Z8/\h.FunFrames base l/\TrD h base e cls dd (jw L)
theorem FlD.first (x:FlD base l e cls b h):∃ob a,h.get? e=Z9 ob/\ob.cls=cls/\ob.dict=b/\ob.data=.fields a:=by obtain⟨_,_,_,ob,a,_,_,_,c,d,f,g,_⟩:=x;exact⟨ob,a,c,d,f,g⟩
section
variable {M:Model}{A:gn}{E:Value->bb->Prop}{s:bb}{base:Heap}{env:Env}{outer:List Env}{L e:Addr}{Q:Unit->bb->Prop}{cls:Value}{dd:Option Addr}
theorem za8 (fr:A.frames=Z9 (env::outer))(ff:s.heap.FunFrames base (env::outer))(el:env.frame=Z9 L)(p:s.heap.get? e=Z9 ob)(st:base.StaysIn s.heap)(be:base.get? e=Z8)(da:ob.data=.fields f)(sz:1<f.size)
  (go:∀h,base.StaysIn h->h.FunFrames base (env::outer)->TrD h base e ob.cls ob.dict (jw L)->s.heap.UpToSlots h->Q () {s with heap:=h}):
  wpAny M A (do
   let a <-frameOf env
   let pl <-entryPlaceOf L hn
   let b <-EntryCells.newEntry head a .none (jw L) .none pl
   setField (.ref e) 1 b) Q E s:=by
 have r:e∉(env::outer).filterMap (·.frame):=λz=>by obtain⟨_,o,q,n⟩:=ff.mem z;rw[p]at q;cases q;exact n f da
 refine ah (wpAny_frameOf_fun fr ff el λd m=>ah (wpAny_entryPlaceOf λpl t=>?_));refine ah (qu ?_ (t.sizeOk5 _ _ _ _ _));have i:d.get? e=Z9 ob:=m.2.1 e r▸p;have j:base.StaysIn d:=λb o q=>by rw[m.2.1 b λz=>by rw[(ff.mem z).1]at q;cases q];exact st b o q
 generalize u:({cls:=.type "traceback",dict:=Z8,data:=.fields ([head,.ref L,.none,jw L,.none]++(if pl.isEmpty then ay 6 Value.none else pl)).toArray}:Obj)=k;have l:=am k i;have w:d.objs.size≠e:=λz=>absurd (bn i) (z▸dm _);refine j9 l da sz (go _ ?_ ?_ ?_ ?_)
 all_goals generalize y:(λv:Array Value=>v.setIfInBounds 1 (ZS d.objs.size))=g
 all_goals
  have x:=Obj.data_mapFields da g;have B:((d.push k).update e (Obj.mapFields g)).get? d.objs.size=Z9 k:=by rw[fg _ _ (Ne.symm w)];exact bx d (by rw[<-u];rfl)
  have keep:∀b o,b≠e->d.get? b=Z9 o->((d.push k).update e (Obj.mapFields g)).get? b=Z9 o:=λb o n q=>by rw[fg _ _ (Ne.symm n)];exact am _ q
  have c:∀b o,s.heap.get? b=Z9 o->(∀f,o.data≠.fields f)->b≠e:=λb o q n z=>by rw[z,p]at q;cases q;exact n f da
 .exact λb o q=>keep b o (λz=>by rw[z,be]at q;cases q) (j b o q)
 .refine ff.of_keeps λb o q n=>?_;obtain⟨sl,z⟩:=m.2.2 b o q;exact⟨_,keep b _ (c b o q n) z,rfl⟩
 .refine⟨_,_,d.objs.size,k,_,g7 (Obj.mapFields g) l (Obj.isFreed_of_fields x),Obj.cls_mapFields _ _,QT _ _,x,?_,j.fresh,w,B,by rw[<-u],?_⟩
  .rw[<-y];simp[sz]
  .first|(simp;done)|(rcases t with rfl|⟨_,_,_,_,_,_,_,rfl⟩<;>simp)
 .exact λb o q n=>by obtain⟨sl,z⟩:=m.2.2 b o q;exact⟨sl,keep b _ (c b o q n) z⟩
theorem zgx (fr:A.frames=Z9 (env::outer))(ff:s.heap.FunFrames base (env::outer))(el:env.frame=Z9 L)(b:s.heap.get? e=Z9 ob)(st:base.StaysIn s.heap)(be:base.get? e=Z8)(da:ob.data=.fields d)(c:d[1]?=Z9 .none)
  (go:∀a,base.StaysIn a->a.FunFrames base (env::outer)->TrD a base e ob.cls ob.dict (jw L)->s.heap.UpToSlots a->Q () {s with heap:=a}):wpAny M A (ja (.ref e) env) Q E s:=by
 unfold ja;simp only[el];refine ah (ji b da c ?_);exact za8 fr ff el b st be da (gy.mp c).1 go
theorem zll (fr:A.frames=Z9 (env::outer))(ff:s.heap.FunFrames base (env::outer))(el:env.frame=Z9 L)(l:TrD s.heap base e cls dd .none)(st:base.StaysIn s.heap)(be:base.get? e=Z8)
  (go:∀d,base.StaysIn d->d.FunFrames base (env::outer)->TrD d base e cls dd (jw L)->s.heap.UpToSlots d->Q () {s with heap:=d}):wpAny M A (ja (.ref e) env) Q E s:=by
 obtain⟨ob,h,T,y,m,i,rfl,rfl,da,j,p,r,f,dT,k⟩:=l;unfold ja;simp only[el];refine ah (ji i da j ?_);refine ah (ji f dT k ?_);refine ah (j9 f dT (gy.mp k).1 ?_);generalize B:(λv:Array Value=>v.setIfInBounds 3 Value.none)=g;have c:∀b,b≠T->(s.heap.update T (Obj.mapFields g)).get? b=s.heap.get? b:=λb n=>fg _ _ (Ne.symm n);have a:∀b o,s.heap.get? b=Z9 o->(∀h,o.data≠.fields h)->b≠T:=λb o q n z=>by rw[z,f]at q;cases q;exact n m dT
 refine za8 fr (ff.of_keeps λb o q n=>⟨o,by rw[<-q];exact c b (a b o q n),rfl⟩) el ((c e (Ne.symm r)).trans i) (λb o q=>(c b λz=>by rw[z,p]at q;cases q).trans (st b o q)) be da (gy.mp j).1 λd t u w x=>go d t u w λb o q n=>x b o ((c b (a b o q n)).trans q) n
theorem zci (st:base.StaysIn s.heap)(ff:s.heap.FunFrames base l)(r:TrD s.heap base e cls dd fl)
  (go:∀d,base.StaysIn d->d.FunFrames base l->TrD d base e cls dd .none->s.heap.UpToSlots d->Q () {s with heap:=d}):wpAny M A (j7 (.ref e) Z8) Q E s:=by
 obtain⟨ob,h,T,x,t,j,hc,hd,da,k,m,p,i,dT,u⟩:=r;have sz:=(gy.mp u).1;refine ah (ji j da k ?_);refine j9 i dT sz ?_;generalize w:(λv:Array Value=>v.setIfInBounds 3 ((Z8:Option Addr).elim Value.none λf=>jw f))=g;have c:∀b,b≠T->(s.heap.update T (Obj.mapFields g)).get? b=s.heap.get? b:=λb n=>fg _ _ (Ne.symm n);have a:∀b o,s.heap.get? b=Z9 o->(∀h,o.data≠.fields h)->b≠T:=λb o q n z=>by rw[z,i]at q;cases q;exact n t dT
 refine go _ (λb o q=>(c b λz=>by rw[z,m]at q;cases q).trans (st b o q)) (ff.of_keeps λb o q n=>⟨o,(c b (a b o q n)).trans q,rfl⟩) ⟨ob,h,T,_,_,(c e (Ne.symm p)).trans j,hc,hd,da,k,m,p,g7 _ i (Obj.isFreed_of_fields (Obj.data_mapFields dT _)),Obj.data_mapFields dT _,by rw[<-w];simp[sz]⟩ λb o q n=>⟨o.slots,(c b (a b o q n)).trans q⟩
theorem zaw (fr:A.frames=Z9 (env::outer))(el:env.frame=Z9 L)(fl:FlD base (env::outer) e cls dd s.heap)
  (go:∀a,IZ base (env::outer) e cls dd L a->s.heap.UpToSlots a->Q () {s with heap:=a}):wpAny M A (ja (.ref e) env) Q E s:=by
 obtain⟨c,b,d,f⟩:=fl;exact zll fr d el f c b λa g h i j=>go a ⟨g,b,h,i⟩ j
theorem I0 (x:IZ base l e cls dd L s.heap)(go:∀a,FlD base l e cls dd a->s.heap.UpToSlots a->Q () {s with heap:=a}):wpAny M A (j7 (.ref e) Z8) Q E s:=by obtain⟨b,c,d,f⟩:=x;exact zci b d f λa g h i j=>go a ⟨g,c,h,i⟩ j
theorem QU (x:FlD base l e cls dd s.heap)(go:∀a,FlD base l e cls dd a->s.heap.UpToSlots a->Q () {s with heap:=a}):wpAny M A (j7 (.ref e) Z8) Q E s:=by obtain⟨b,c,d,f⟩:=x;exact zci b d f λa g h i j=>go a ⟨g,c,h,i⟩ j
theorem zi5 (fr:A.frames=Z9 (env::outer))(el:env.frame=Z9 L)(fl:FlD base (env::outer) e cls dd s.heap)
  (go:∀a,FlD base outer e cls dd a->s.heap.UpToSlots a->Q () {s with heap:=a}):wpAny M A (sf env (.ref e)) Q E s:=by
 refine ah (zaw fr el fl λl b c=>I0 b λd f g=>?_);obtain⟨h,i,⟨_,_,j⟩,k⟩:=f;exact go d ⟨h,i,j,k⟩ (c.trans g)
theorem zdr (fr:A.frames=Z9 (env::outer))(ff:s.heap.FunFrames base (env::outer))(el:env.frame=Z9 L)(b:s.heap.get? e=Z9 ob)(st:base.StaysIn s.heap)(be:base.get? e=Z8)(da:ob.data=.fields c)(d:c[1]?=Z9 .none)
  (go:∀a,FlD base outer e ob.cls ob.dict a->s.heap.UpToSlots a->Q () {s with heap:=a}):wpAny M A (sf env (.ref e)) Q E s:=by
 refine ah (zgx fr ff el b st be da d λp f g h i=>zci f g h λj k l m n=>?_);obtain⟨_,_,o⟩:=l;exact go j ⟨k,be,o,m⟩ (i.trans n)
end
structure Fly (P:cu)(w:World)(base:Heap)(outer:List Env)(H:Hp)(s:bb)(C a:Addr)(H':Hp)(s':bb)(dd:Option Addr):Prop where
 os:s'.os=s.os
 bare:lu s'.gens
 cW:∀b xs,H b=Z9 (.tup xs)->H' b=Z9 (.tup xs)
 cJ:∀b o u,H b=Z9 (.fV o u)->H' b=Z9 (.fV o u)
 cX:∀b ps,H b=Z9 (.mU ps)->∃more,H' b=Z9 (.mU (ps++more))
 free:∀b o,s.heap.get? b=Z9 o->H b=Z8->H' b=Z8
 hh:∃B,base.StaysIn B/\HOk P w H' B/\(∀b o,s.heap.get? b=Z9 o->b∉frs outer->∃o',B.get? b=Z9 o'/\(H b=Z8->o'=o))/\FlD B outer a (.ref C) dd s'.heap
 slot:∀b o,s.heap.get? b=Z9 o->H b=Z8->b∈frs outer->∃sl,s'.heap.get? b=Z9 {o with slots:=sl}
def CXE (P:cu)(w:World)(base:Heap):CXT:=λouter H s E e s'=>∃a C dd H',e=.ref a/\Fly P w base outer H s C a H' s' dd/\E (.ref C) dd H'
theorem Ja (x:z1b P w H h a o):∃ob,h.get? a=Z9 ob:=by
 cases o with
 |lst b=>obtain⟨_,_,_,_,e⟩:=x;exact⟨_,e⟩
 |tup b=>obtain⟨_,_,_,_,e⟩:=x;exact⟨_,e⟩
 |dK kvs=>obtain⟨_,_,_,_,o,_,_,e,_⟩:=x;exact⟨_,e⟩
 |dT kvs=>obtain⟨_,_,_,_,o,_,_,e,_⟩:=x;exact⟨_,e⟩
 |set S n=>obtain⟨o,_,_,_,e,_⟩:=x;exact⟨_,e⟩
 |ins C dx fs=>obtain⟨_,_,_,e,_⟩:=x;exact⟨_,e⟩
 |own y=>exact x
 |xd fs=>obtain⟨_,⟨_,_,_,e,_⟩,_⟩:=x;exact⟨_,e⟩
 |fV ob u=>exact⟨_,x.1⟩
 |mU ps=>exact⟨_,x⟩
 |ext c=>exact x.2.1
section
variable {P:cu}{w:World}{base:Heap}{outer:List Env}{H H':Hp}{s s':bb}{C a:Addr}{dd:Option Addr}
theorem Fly.hok (f:Fly P w base outer H s C a H' s' dd):HOk P w H' s'.heap:=by obtain⟨B,_,b,_,fl⟩:=f.hh;exact b.kept fl.1
theorem Fly.un (f:Fly P w base outer H s C a H' s' dd):Un (frs outer) [] H H' s.heap s'.heap:=by
 obtain⟨B,_,l,d,fl⟩:=f.hh;refine⟨λb o e n c _=>?_,λb o e n c _=>f.slot b o e n c,λb o e n _=>f.free b o e n,λb o e _=>?_,f.cW,f.cJ,f.cX⟩
 .obtain⟨h,g,i⟩:=d b o e c;rw[i n]at g;exact fl.1 b o g
 .by_cases c:b∈frs outer
  .obtain⟨_,j,k,_⟩:=fl.2.2.1.mem c;exact⟨j,k⟩
  .obtain⟨h,g,_⟩:=d b o e c;exact⟨h,fl.1 b h g⟩
end
section
variable {X:Cx}{pins:List (Addr×Obj)}{σ:L2.St}{H H':Hp}{s s':bb}{C a:Addr}{dd:Option Addr}
theorem Fly.inv (f:Fly X.prog X.w X.base X.stack H s C a H' s' dd)(I:Inv X pins σ H s):Inv X pins σ H' s':=by obtain⟨c,g,d,t,o⟩:=s';obtain rfl:o=s.os:=f.os;exact I.call f.un f.hok f.bare λb z=>nomatch z
theorem Fly.leave {M:Model}{outer:List Env}{Q:Unit->bb->Prop}{E:Value->bb->Prop}(f:Fly X.prog X.w X.base X.stack H s C a H' s' dd)(I:Inv X pins σ H s)(hs:X.stack=X.env::X.outer)(hf:X.env.frame=Z9 X.env.locals)(hx:X.ex=[])
  (hQ:∀ug,Fly X.prog X.w X.base X.outer X.iB X.s₀ C a H' ug dd->Q () ug):wpAny M X.A (sf X.env (.ref a)) Q E s':=by
 obtain⟨B,hb,hB,DH,fl⟩:=f.hh;rw[hs]at fl;have QV:X.A.frames=Z9 (X.env::X.outer):=by rw[<-hs];exact I.ok.frames
 have u0:=I.base
 have DI:∀b o,X.s₀.heap.get? b=Z9 o->b∉frs X.outer->b∉frs X.stack:=λb o e hn z=>by
  rw[hs]at z;unfold frs at z hn;rw[dt,hf]at z;rcases bq.mp z with z|z
  .exact absurd (bn e) (by rw[z];exact Nat.not_lt.mpr I.ok.above)
  .exact hn z
 have slot:∀h',s'.heap.UpToSlots h'->∀b o,X.s₀.heap.get? b=Z9 o->X.iB b=Z8->b∈frs X.outer->∃sl,h'.get? b=Z9 {o with slots:=sl}:=λh' up b o e n hn=>by
  have nx:b∉X.ex:=by rw[hx];simp
  obtain⟨sl,e1⟩:=I.base.slot b o e n hn nx;have DJ:b∈frs X.stack:=by rw[hs];unfold frs;rw[dt,hf];exact bc _ hn
  obtain⟨W',e2⟩:=f.slot b _ e1 (I.base.free b o e n nx) DJ;obtain⟨_,o3,e3,nd⟩:=I.ok.cK.mem hn;rw[e]at e3;cases e3;obtain⟨QW,e4⟩:=up b _ e2 nd;exact⟨QW,e4⟩
 refine zi5 QV hf fl λh' QX up=>hQ _ ⟨f.os.trans I.os,f.bare,λb xs e=>f.cW b xs (u0.cW b xs e),λb o u e=>f.cJ b o u (u0.cJ b o u e),λb ps e=>?_,λb o e n=>?_,⟨B,hb,hB,λb o e hn=>?_,QX⟩,slot h' up⟩
 .obtain⟨m1,e1⟩:=u0.cX b ps e;obtain⟨m2,e2⟩:=f.cX b _ e1;exact⟨m1++m2,by rw[e2,qc]⟩
 .have nx:b∉X.ex:=by rw[hx];simp
  obtain⟨o',e'⟩:=I.base.there b o e nx;exact f.free b o' e' (I.base.free b o e n nx)
 .have nx:b∉X.ex:=by rw[hx];simp
  obtain⟨o1,e1⟩:=I.base.there b o e nx;obtain⟨o2,e2,e3⟩:=DH b o1 e1 (DI b o e hn);refine⟨o2,e2,λn=>?_⟩;rw[e3 (I.base.free b o e n nx)];have:=I.base.keep b o e n hn nx;rw[this]at e1;cases e1;rfl
theorem QY (x:HOk P w H h)(n:∀b∈l,H b=Z8):HOk P w H (W.hideAll h l):=λb o e=>by
 refine(x b o e).stay (λc u hc q=>W.hideAll_get _ q λz=>?_) (λ_ q=>q) λ_ _ q=>q;rcases hc with rfl|hc
 .rw[n c z]at e;cases e
 .rw[n c z]at hc;cases hc
theorem zc2 (I:Inv X pins σ H s)(h0:X.s₀.heap.get? a=Z8)(l:H a=Z8)(m:s.heap.get? a=Z9 ob)(hc:ob.cls=.ref C)(da:ob.data=.fields p)(r:p[1]?=Z9 .none)(hs:X.stack=X.env::X.outer)(hf:X.env.frame=Z9 X.env.locals)(t:X.ex=[])
  (u:∀f,Fly X.prog X.w X.base X.outer X.iB X.s₀ C a H f ob.dict->Q () f):wpAny M X.A (sf X.env (.ref a)) Q E s:=by
 have nx:∀b,b∉X.ex:=λb=>by rw[t];simp
 have g:=I.stack;rw[hs]at g
 have d:∀b∈a::frs (X.env::X.outer),H b=none:=λb h=>by
  rcases bq.mp h with rfl|h
  .exact l
  .exact I.gW b (hs▸h)
 have c:∀b o,X.s₀.heap.get? b=Z9 o->b∉frs X.outer->b∉a::frs (X.env::X.outer):=λb o e hn z=>by
  rcases bq.mp z with rfl|z
  .rw[h0]at e;cases e
  unfold frs at z hn;rw[dt,hf]at z;rcases bq.mp z with z|z
  .exact absurd (bn e) (z▸Nat.not_lt.mpr I.ok.above)
  .exact hn z
 refine zdr (base:=W.hideAll s.heap (a::frs (X.env::X.outer))) (hs▸I.ok.frames) (W.funFrames_hide g (λenv v b h=>bc _ (iz.mpr ⟨env,v,h⟩))) hf m (λb o q=>W.of_hideAll _ q) (W.hideAll_none _ bg) da r λB fl up=>u _ ⟨I.os,I.bare,I.base.cW,I.base.cJ,I.base.cX,λb o e n=>I.base.free b o e n (nx b),⟨_,λb o e=>W.hideAll_get _ (I.bk b o e) (c b o (I.ok.bs b o e).1 (I.ok.wV e)),QY I.hok d,λb o e hn=>?_,by rw[hc]at fl;exact fl⟩,λb o e n hn=>?_⟩
 .obtain⟨x,i⟩:=I.base.there b o e (nx b);refine⟨x,W.hideAll_get _ i (c b o e hn),λn=>?_⟩;rw[I.base.keep b o e n hn (nx b)]at i;cases i;rfl
 obtain⟨sl,i⟩:=I.base.slot b o e n hn (nx b);obtain⟨_,D,k,nd⟩:=I.ok.cK.mem hn;rw[e]at k;cases k;obtain⟨j,y⟩:=up b _ i nd;exact⟨j,y⟩
end
def Jb (K:Z5)(mg:Str->Option Value)(n:Nat)(m:Fn):Sp:=λvs H _ E=>∃A ds c,vs.length=n/\Reps K H A vs ds/\excOf (m ds)=Z9 c/\∀C H',mg c=Z9 (.ref C)->Same H H'->E (.ref C) Z8 H'
def nW (P:cu)(w:World)(K:Z5)(mg:Str->Option Value)(base:Heap)(k:Nat)(x:Str)(ps:List Str)(n:Nat)(m:Fn):Prop:=∃f fd,FnOk P w K mg base (CXE P w base) k f fd ps (Jb K mg n m)/\mg x=Z9 (.ref f)/\Z2 K (.ref f)=Z7/\Binds K fd ps []
def jP (X:Cx)(i:Nat)(n:Str)(a:Addr)(oe:Obj):Cx:={X with A:=X.A.mark (Z9 (.ref a)),N:=X.N.set i "",calm:=Z6,pn:=(a,oe)::X.pn,xe:=λ_ _=>False,fx:=Z9 (n,.ref a)}
section
variable {X:Cx}{a:Addr}{oe:Obj}
theorem QZ (ok:X.Ok)(nd:X.N.Nodup)(d:X.N[i]?=Z9 n)(f:X.env.scope.names.lookup ("":Str)=Z8)(c:X.env.scope.names.lookup n=Z9 .local):(jP X i n a oe).Ok:=by
 refine⟨ok.mod,ok.kind,ok.glob,ok.blt,ok.above,ok.inj,ok.has,ok.rV,λz=>(by cases z),ok.frames,ok.tT,ok.kA,ok.bs,ok.kE,ok.iC,ok.iD,ok.cK,ok.oX,λx u z=>?_⟩;cases z;refine⟨λhm=>?_,c⟩;obtain⟨j,b⟩:=ce.mp hm;have b:(X.N.set i "")[j]?=Z9 n:=b;by_cases e:i=j
 .subst e;rw[cq (ax.mp d).1]at b;cases b;rw[f]at c;cases c
 .rw[b9 e]at b;exact e (zK nd d b)
theorem znv (I:Inv X b g H s)(nd:X.N.Nodup)(h:X.N[i]?=Z9 n)(t:X.env.scope.names.lookup ("":Str)=Z8)(l:X.env.scope.names.lookup n=Z9 .local)(o:g[i]?=Z9 (Z9 (.ref a)))
  (w:s.heap.get? a=Z9 oe) (y:H a=Z8) (A:a≠X.env.locals) (B:a∉X.fs) (C:∀v,oe.data≠.cell v):Inv (jP X i n a oe) b (g.set i Z8) H s:=by
 obtain⟨m,hn,c⟩:=I.loc;refine⟨QZ I.ok nd h t l,I.os,I.bare,I.base,⟨m,hn,λj x v d f D=>?_⟩,I.cell,I.free,I.bC,λp r=>?_,I.hok,?_,λx u z=>?_⟩
 .have d:(X.N.set i "")[j]?=Z9 x:=d;by_cases e:i=j
  .subst e;rw[cq (I.len▸(ax.mp h).1)]at f;cases f
  .rw[b9 e]at d f;exact c j x v d f D
 .rcases bq.mp r with rfl|r
  .exact⟨w,y,A,B,C⟩
  .exact I.pin p r
 .show(g.set i Z8).length=(X.N.set i "").length;rw[cw,cw];exact I.len
 .cases z;obtain⟨u,rfl,q⟩:=c i n (.ref a) h o (.inl l);rcases q with⟨_,q⟩|⟨k,_⟩
  .exact⟨m,hn,q⟩
  .have k:X.env.scope.names.lookup n=Z9 .cell\/X.env.scope.names.lookup n=Z9 .free:=k;rcases k with k|k<;>(rw[l]at k;cases k)
theorem Q0 (ok:X.Ok)(h:X.fx=Z8)(k:X.N[i]?=Z9 n)(I:Inv (jP X i n a oe) c g H s):Inv X c (g.set i Z8) H s:=by
 obtain⟨m,hn,f⟩:=I.loc;have b:g.length=(X.N.set i "").length:=I.len;rw[cw]at b;refine⟨ok,I.os,I.bare,I.base,⟨m,hn,λj x v l d o=>?_⟩,I.cell,I.free,I.bC,λp q=>I.pin p (bc _ q),I.hok,by rw[cw];exact b,λx u z=>by rw[h]at z;cases z⟩;by_cases e:i=j
 .subst e;rw[cq (b▸(ax.mp k).1)]at d;cases d
 .rw[b9 e]at d;exact f j x v (show(X.N.set i "")[j]?=Z9 x by rw[b9 e];exact l) d o
theorem zq1 (I:Inv X f σ H s)(a:X.fx=Z8)(nd:X.N.Nodup)(t:X.N[i]?=Z9 n)(B:X.env.scope.names.lookup n=Z9 .local)(C:σ[i]?=Z9 (Z9 v))
  (h:∀K,Inv X f (σ.set i Z8) H K->Q () K):wpAny M A (li X.env n pos) Q E s:=by
 obtain⟨m,hn,g⟩:=id I.loc;have mF:=I.mF;obtain⟨u,r,q⟩:=g i n v t C (.inl B)
 have O:m n=Z9 u:=by
  rcases q with⟨_,q⟩|⟨k,_⟩
  .exact q
  .have k:X.env.scope.names.lookup n=Z9 .cell\/X.env.scope.names.lookup n=Z9 .free:=k;rcases k with k|k<;>(rw[B]at k;cases k)
 refine wpAny_onRaise (wpAny_unbindName_local B hn O (by rw[I.ok.kind];rfl) λh' u' D hs=>h _ ?_);have old:∀b o,X.s₀.heap.get? b=Z9 o->b≠X.env.locals:=λb o e=>cv (ci (bn e) I.ok.above);refine⟨I.ok,I.os,I.bare,⟨λb o e z F a=>(hs.2 b (old b o e)).trans (I.base.keep b o e z F a),λb o e z F a=>?_,I.base.free,λb o e a=>?_,I.base.cW,I.base.cJ,I.base.cX⟩,⟨_,D,λj y w d l P=>?_⟩,λy c e=>?_,I.free,I.bC,λp R=>?_,λb ob e=>?_,by rw[cw];exact I.len,λx u z=>by rw[a]at z;cases z⟩
 .obtain⟨sl,d⟩:=I.base.slot b o e z F a;exact⟨sl,(hs.2 b (old b o e)).trans d⟩
 .obtain⟨S,d⟩:=I.base.there b o e a;exact⟨S,(hs.2 b (old b o e)).trans d⟩
 .by_cases G:i=j
  .subst G;rw[cq (I.len▸(ax.mp t).1)]at l;cases l
  .rw[b9 G]at l;obtain⟨T,U,J⟩:=g j y w d l P;refine⟨T,U,?_⟩;have V:y≠n:=λz=>G (zK nd t (z▸d));rcases J with⟨k,J⟩|⟨k,c,e,z⟩
   .exact .inl ⟨k,by simp only[tx V];exact J⟩
   .exact .inr ⟨k,c,e,z.sameBut hs (mF y c e)⟩
 .obtain⟨w,z⟩:=I.cell y c e;exact⟨w,z.sameBut hs (mF y c e)⟩
 .obtain⟨e,W,ne,nf,Y⟩:=I.pin p R;exact⟨(hs.2 p.1 ne).trans e,W,ne,nf,Y⟩
 .have L:∀c w,H c=Z9 w->c≠X.env.locals:=λc w q z=>by rw[z,I.free]at q;cases q
  exact(I.hok b ob e).stay (λc w hc q=>(hs.2 c (hc.elim (λz=>by rw[z];exact L b _ e) λz=>L c _ z)).trans q) (λ_ q=>q) λ_ _ q=>q
theorem zcm (ok:X.Ok)(t:X.fx=Z8)(nd:X.N.Nodup)(l:X.N[i]?=Z9 n)(m:X.env.scope.names.lookup n=Z9 .local)(o:∀b c,D2.nx b c->w.nx (b.set i Z8) c)(p:∀v c,D2.rt v c->w.rt v c)(y:∀b c,¬D2.bk b c)(z:∀b c,¬D2.ct b c)
  (h:SP (jP X i n a oe) d D2 f s):wpAny M X.A (do bindName X.env n .none;li X.env n pos) (λ_ e=>SP X d w f e) E s:=by
 have j:∀{b:L2.St} {c:Hp} {Q:Unit->bb->Prop},Inv (jP X i n a oe) d b c s->(∀e,Inv X d (b.set i Z8) c e->Q () e)->wpAny M X.A (do bindName X.env n .none;li X.env n pos) Q E s:=λ{b c Q} I k=>by have x:=Q0 ok t l I;refine ah (wpAny_bindName (z4z x nd l (.inl m) (v:=.aO) rfl (λC B _=>?_) (.inr m)));refine zq1 B t nd l m (cq (x.len▸(ax.mp l).1)) λe g=>k e ?_;rw[q8,q8]at g;exact g
 cases f with
 |next=>obtain⟨b,c,I,q⟩:=h;exact j I λe g=>⟨_,c,g,o b c q⟩
 |ret u=>obtain⟨v,b,c,I,r,q⟩:=h;exact j I λe g=>⟨v,_,c,g,r,p v c q⟩
 |brk=>obtain⟨b,c,_,q⟩:=h;simp_all
 |cont=>obtain⟨b,c,_,q⟩:=h;simp_all
theorem Jc {C:Addr}(f:Fly P w base outer H s C a b d g):b a=none:=by
 obtain⟨B,_,c,_,fl⟩:=f.hh;cases e:b a with
 |none=>rfl
 |some u=>obtain⟨o,q⟩:=Ja (c a u e);rw[fl.2.1]at q;cases q
theorem zfb {C D:Addr}(inv:∀m,FlD B0 (X.env::X.outer) a (.ref C) dd m->L.heap.UpToSlots m->Inv X pins σ M {L with heap:=m})(w0:FlD B0 (X.env::X.outer) a (.ref C) dd L.heap)(O:M a=Z8)(hs:X.stack=X.env::X.outer)(hf:X.env.frame=Z9 X.env.locals)(hx:X.fx=Z8)(nd:X.N.Nodup)(H:X.N[i]?=Z9 n)(hv:X.env.scope.names.lookup ("":Str)=Z8)(I:X.env.scope.names.lookup n=Z9 .local)
  (hB:X.mg B=Z9 (.ref D)) (hm:∀A E Q J oe,X.K.In J.heap->J.heap.get? a=Z9 oe->oe.cls=.ref C->Q Z7 J->wpAny (model X.prog X.w) A (tm (.ref a) (.ref D)) Q E J) (P:Gl X B) (R:Xv B)
  (hQ:∀f s,SP X pins Dn f s->Q f s) (S:∀oe o,oe.cls=.ref C->oe.dict=dd->oe.data=.fields o->PSs (jP X i n a oe) (b0::iK) T) (q:T ⟨λc d=>Dn.nx (c.set i Z8) d,Dn.rt,λ_ _=>False,λ_ _=>False⟩ (σ.set i Z8) M):
  wpAny (model X.prog X.w) X.A (ja (.ref a) X.env) (λ_ s2=>wpAny (model X.prog X.w) X.A (j7 (.ref a) Z8) (λ_ s3=>wpAny (model X.prog X.w) X.A (o4 (.ref a) X.env [.ExceptHandler (Z9 (.Name B np)) (Z9 n) (b0::iK) hp]) Q X.xe s3) X.xe s2) X.xe L:=by
 have ok:=(inv _ w0 (Heap.UpToSlots.refl _)).ok;refine zaw (hs▸ok.frames) hf w0 λh4 p r=>I0 p λU V t=>?_;have u:=inv U V (r.trans t);refine wpAny_handleBy_cons (codeAny_handlers_test ?_) (by intro z;cases z);refine jd u.ok.kind P (mw (u.ok.glob▸u.mod.glob.keeps u.bk) hB ?_) R;obtain⟨ob,_,W,x,_⟩:=V.first;refine hm _ _ _ _ ob u.cL W x (codeAny_handlers_suite_as (QU V λm w6 Y=>?_));have y:=inv m w6 ((r.trans t).trans Y);obtain⟨oe,o,e,F,G,b⟩:=w6.first;refine z4z y nd H (.inl I) (v:=.ref a) rfl (λs7 I7 ch=>?_) (.inr I);obtain⟨ad,Z,Q1⟩:=ch;have nL:a≠X.env.locals:=λz=>by obtain⟨_,o3,l,j⟩:=y.stack.mem (by rw[hs,dt,hf];exact bg);rw[<-z]at l;rw[e]at l;cases l;exact j o b
 have nF:a∉X.fs:=λz=>by obtain⟨_,o3,l,j⟩:=y.cK.mem z;rw[e]at l;cases l;exact j o b
 have nA:a≠ad:=λz=>by
  rcases Q1 with h|h
  .exact nL (z.trans h)
  .obtain⟨v,oc,k,g⟩:=y.cell n ad h;rw[<-z]at k;rw[e]at k;cases k;rw[b]at g;cases g
 have I8:=znv I7 nd H hv I (cq (y.len▸(ax.mp H).1)) ((Z.2 a nA).trans e) O nL nF (λv z=>by rw[b]at z;cases z);rw[q8]at I8;refine ez (S oe o F G b pins s7 _ M ⟨λc d=>Dn.nx (c.set i Z8) d,Dn.rt,λ_ _=>False,λ_ _=>False⟩ I8 q) (λXa s9 h9=>?_) λ_ _ z=>z.elim;refine ez (zcm (D2:=⟨λc d=>Dn.nx (c.set i Z8) d,Dn.rt,λ_ _=>False,λ_ _=>False⟩) ok hx nd H I (λ_ _ z=>z) (λ_ _ z=>z) (λ_ _ z=>z) (λ_ _ z=>z) h9) (λ_ s5 U=>hQ _ s5 U) λ_ _ z=>z
theorem Fly.land {C:Addr}(I:Inv X c t k l)(fl:Fly X.prog X.w X.base X.stack k l C a m n u)(f:X.base.StaysIn d)(g:HOk X.prog X.w m d)(h:∀b o,l.heap.get? b=Z9 o->b∉frs X.stack->∃p,d.get? b=Z9 p/\(k b=Z8->p=o))(v:FlD d X.stack a (.ref C) u q)(up:n.heap.UpToSlots q):Inv X c t m {n with heap:=q}:=by refine Fly.inv ⟨fl.os,fl.bare,fl.cW,fl.cJ,fl.cX,fl.free,⟨d,f,g,h,v⟩,λb o e z r=>?_⟩ I;obtain⟨sl,x⟩:=fl.slot b o e z r;obtain⟨_,A,s,i⟩:=I.stack.mem r;rw[e]at s;cases s;obtain⟨j,y⟩:=up b _ x i;exact⟨j,y⟩
theorem yk {C D:Addr}(d:gL X.K C=Z7)(f:gL X.K D=Z7)(g:ZX X.K (.ref C) (.ref D)=Z9 Z7)(A:gn)(E:Value->bb->Prop)(Q:Bool->bb->Prop)(b:bb)(oe:Obj)(k:X.K.In b.heap)(e:b.heap.get? a=Z9 oe)(c:oe.cls=.ref C)(q:Q Z7 b):wpAny (model X.prog X.w) A (tm (.ref a) (.ref D)) Q E b:=by obtain⟨h,i,j⟩:=XC.mk k d;obtain⟨l,m,_⟩:=XC.mk k f;exact QQ i m e c (j _ _ g) q
end
section
variable {X:Cx}{n x:Str}{p p1 p2 pos:Pos}{a C:Addr}{oe:Obj}{v:V}{u:Value}{b:Bool}
theorem Jd (c:X.fx=Z9 (n,.ref a))(d:X.env.scope.names.lookup n=Z9 .local)(hd:Xv n):PE X (.Name n p) (λ_ H Q=>Q (.ref a) H):=by intro b s e H Q I h;obtain⟨m,hn,hm⟩:=I.fx n _ c;exact qd (oq I.ok.kind d hn hm ⟨.ref a,H,I,rfl,h⟩) hd
theorem Q3 (a:Gl X x)(hm:X.mg x=Z9 u\/(X.mg x=Z8/\dk x=Z9 u/\x≠"__name__"))(r:RelV v u)(hd:Xv x):PE X (.Name x p) (λ_ H Q=>Q v H):=by
 intro b s f H Q I h;rcases hm with hm|⟨c,d,e⟩
 .exact z44 I a hm ⟨v,H,I,r,h⟩ hd
 .exact z2p I a c d ⟨v,H,I,r,h⟩ e hd
def Xh (X:Cx)(a:Addr)(oe:Obj):Prop:=∀pins σ H s,Inv X pins σ H s->s.heap.get? a=Z9 oe
theorem ztd (hm:X.mg "isinstance"=Z8)(k:Gl X "isinstance")(l:X.fx=Z9 (n,.ref a))(m:X.env.scope.names.lookup n=Z9 .local)(hd:Xv n)(o:Xh X a oe)(hc:oe.cls=.ref C)
  (f:Gl X x) (g:X.mg x=Z9 u\/(X.mg x=Z8/\dk x=Z9 u/\x≠"__name__")) (r:RelV v u) (t:∀w,RelV v w->w=u) (h:Xv x) (xa:XA X.K C) (y:XV X.K u) (hs:ZX X.K (.ref C) u=Z9 b):
  PE X (.Call (.Name "isinstance" p) [.Name n p1,.Name x p2] [] pos) (tD X.K λ_=>.ok (.fr,.bool b)):=by
 rintro c s A H Q I ⟨N,F,z,so,e,q⟩
 cases e;refine i4 (z2p (u:=.builtin "isinstance") I k hm (by decide+kernel) ?_ dc dc);refine PyProof.Rows.callWith_builtin1 (aM ((zR (Jd (p:=p1) l m hd) (zR (Q3 (p:=p2) f g r h) lD)) pos c s A H (λj d=>j=[.ref a,v]/\d=H) I ⟨rfl,rfl⟩) λO P B=>?_) rfl rfl;obtain⟨j,d,i,D,rfl,rfl⟩:=B;cases D with
 |cons E rt=>
  cases rt with
  |cons G rn=>cases rn;rename_i J L;obtain rfl:J=ZS a:=E;have M:=t L G;subst M;exact zuj i.cL xa (o _ _ _ _ i) hc y hs λR=>⟨.bl b,d,i.tok _,rfl,q _ d (Same.refl d) rfl⟩
end
section
theorem aE (h:(a&&b)=Z7):a=Z7/\b=true:=au.mp h
theorem aU (h:(a&&b&&c)=Z7):a=Z7/\b=Z7/\c=true:=⟨(aE (aE h).1).1,(aE (aE h).1).2,(aE h).2⟩
theorem bL (h:(a&&b&&c&&d)=Z7):a=Z7/\b=Z7/\c=Z7/\d=true:=⟨(aU (aE h).1).1,(aU (aE h).1).2.1,(aU (aE h).1).2.2,(aE h).2⟩
theorem dF (h:(a&&b&&c&&d&&e)=Z7):a=Z7/\b=Z7/\c=Z7/\d=Z7/\e=true:=⟨(bL (aE h).1).1,(bL (aE h).1).2.1,(bL (aE h).1).2.2.1,(bL (aE h).1).2.2.2,(aE h).2⟩
theorem cG (h:(!b)=Z7):b=false:=by cases b<;>first|rfl|cases h
theorem ff {p:Prop}(h:b=Z6)(z:b=Z7):p:=by rw[h]at z;cases z
theorem fL (h:l.isEmpty=Z7):l=[]:=by cases l<;>first|rfl|cases h
theorem qF (h:(!l.isEmpty)=Z7):∃x r,l=x::r:=by cases l<;>first|exact⟨_,_,rfl⟩|cases h
theorem aK (h:o.any f=Z7):∃v,o=Z9 v/\f v=true:=by
 cases o with
 |none=>cases h
 |some v=>exact⟨v,rfl,h⟩
theorem bS {a:Type}{o:Option a}{v:a}{q:a->Prop}(h:o=Z9 v)(d:o=Z8\/∃u,o=Z9 u/\q u):q v:=by grind
theorem uI (h:z8 e=Z9 v):∃p,e=.Name v p:=bS (q:=λv=>∃p,e=.Name v p) h (by cases e<;>first|exact .inl rfl|exact .inr ⟨_,rfl,_,rfl⟩)
theorem uJ (h:fJ e=Z9 v):∃k p,e=.Constant v k p:=bS (q:=λv=>∃k p,e=.Constant v k p) h (by cases e<;>first|exact .inl rfl|exact .inr ⟨_,rfl,_,_,rfl⟩)
theorem Q4 (h:xX e=Z9 v):∃p,e=.BinOp v.1 v.2.1 v.2.2 p:=bS (q:=λv=>∃p,e=.BinOp v.1 v.2.1 v.2.2 p) h (by cases e<;>first|exact .inl rfl|exact .inr ⟨_,rfl,_,rfl⟩)
theorem qG (h:xY e=Z9 v):∃p,e=.UnaryOp v.1 v.2 p:=bS (q:=λv=>∃p,e=.UnaryOp v.1 v.2 p) h (by cases e<;>first|exact .inl rfl|exact .inr ⟨_,rfl,_,rfl⟩)
theorem nX (h:nN e=Z9 v):∃p,e=.Compare v.1 v.2.1 v.2.2 p:=bS (q:=λv=>∃p,e=.Compare v.1 v.2.1 v.2.2 p) h (by cases e<;>first|exact .inl rfl|exact .inr ⟨_,rfl,_,rfl⟩)
theorem jQ (h:sI e=Z9 v):e=.BoolOp v.1 v.2.1 v.2.2:=bS (q:=λv=>e=.BoolOp v.1 v.2.1 v.2.2) h (by cases e<;>first|exact .inl rfl|exact .inr ⟨_,rfl,rfl⟩)
theorem Je (h:uB e=Z9 v):∃p,e=.IfExp v.1 v.2.1 v.2.2 p:=bS (q:=λv=>∃p,e=.IfExp v.1 v.2.1 v.2.2 p) h (by cases e<;>first|exact .inl rfl|exact .inr ⟨_,rfl,_,rfl⟩)
theorem Ar (h:pY e=Z9 v):∃k p,e=.Tuple v k p:=bS (q:=λv=>∃k p,e=.Tuple v k p) h (by cases e<;>first|exact .inl rfl|exact .inr ⟨_,rfl,_,_,rfl⟩)
theorem Jf (h:uC e=Z9 v):∃p,e=.List v p:=bS (q:=λv=>∃p,e=.List v p) h (by cases e<;>first|exact .inl rfl|exact .inr ⟨_,rfl,_,rfl⟩)
theorem uK (h:z9 e=Z9 v):∃p,e=.Dict v.1 v.2 p:=bS (q:=λv=>∃p,e=.Dict v.1 v.2 p) h (by cases e<;>first|exact .inl rfl|exact .inr ⟨_,rfl,_,rfl⟩)
theorem vY (h:jL e=Z9 v):∃p,e=.Subscript v.1 v.2 p:=bS (q:=λv=>∃p,e=.Subscript v.1 v.2 p) h (by cases e<;>first|exact .inl rfl|exact .inr ⟨_,rfl,_,rfl⟩)
theorem Q5 (h:xZ e=Z9 v):∃p,e=.Slice v.1 v.2.1 v.2.2 p:=bS (q:=λv=>∃p,e=.Slice v.1 v.2.1 v.2.2 p) h (by cases e<;>first|exact .inl rfl|exact .inr ⟨_,rfl,_,rfl⟩)
theorem uL (h:Ab e=Z9 v):e=.Call v.1 v.2.1 v.2.2.1 v.2.2.2:=bS (q:=λv=>e=.Call v.1 v.2.1 v.2.2.1 v.2.2.2) h (by cases e<;>first|exact .inl rfl|exact .inr ⟨_,rfl,rfl⟩)
theorem lO (h:uD e=Z9 v):e=.Attribute v.1 v.2.1 v.2.2:=bS (q:=λv=>e=.Attribute v.1 v.2.1 v.2.2) h (by cases e<;>first|exact .inl rfl|exact .inr ⟨_,rfl,rfl⟩)
theorem yl (h:CM e=Z9 v):∃p,e=.ListComp v.1 v.2.1 v.2.2 p:=bS (q:=λv=>∃p,e=.ListComp v.1 v.2.1 v.2.2 p) h (by cases e<;>first|exact .inl rfl|exact .inr ⟨_,rfl,_,rfl⟩)
theorem fR (h:bI l=Z9 v):l=[v]:=by rcases l with _|⟨x,_|⟨y,l⟩⟩<;>cases h;rfl
theorem DK (h:pZ l=Z9 v):l=[v.1,v.2]:=by rcases l with _|⟨x,_|⟨y,_|⟨z,l⟩⟩⟩<;>cases h;rfl
theorem jR (h:jM e=Z9 v):∃q p,e=.Call (.Name v.1 q) v.2 [] p:=by
 obtain⟨u,hu,h⟩:=iy.mp h;cases a:u.2.2.1.isEmpty with
 |false=>rw[a]at h;simp_all
 |true=>rw[a]at h;obtain⟨x,b,rfl⟩:=bp.mp h;obtain⟨q,c⟩:=uI b;exact⟨q,_,by rw[uL hu,c,fL a]⟩
theorem jS (h:sJ e=Z9 v):∃b c,e=.Call (.Attribute v.1 v.2.1 b) v.2.2.1 [] c/\v.2.2.2=(b.endLine==c.line):=by
 obtain⟨u,hu,h⟩:=iy.mp h;cases a:u.2.2.1.isEmpty with
 |false=>rw[a]at h;simp_all
 |true=>rw[a]at h;obtain⟨x,d,rfl⟩:=bp.mp h;exact⟨_,_,by rw[uL hu,lO d,fL a],rfl⟩
theorem kN (h:lK f e=Z7):∃x p,e=.Name x p/\f x=true:=by obtain⟨x,a,h⟩:=aK h;obtain⟨p,b⟩:=uI a;exact⟨x,p,b,h⟩
def Q6 (K:Z5)(mg:Str->Option Value)(c C:Str)(b:Bool):Prop:=∃A v u,mg c=Z9 (.ref A)/\XA K A/\XV K u/\ZX K (.ref A) u=Z9 b/\RelV v u/\(∀w,RelV v w->w=u)/\(mg C=Z9 u\/(mg C=Z8/\dk C=Z9 u/\C≠"__name__"))
def DL (K:Z5)(mg:Str->Option Value)(c:Str):Prop:=∃C,mg c=Z9 (.ref C)/\exV K C=Z7
def Q7 (K:Z5)(mg:Str->Option Value)(c B:Str):Prop:=∃C D,mg c=Z9 (.ref C)/\mg B=Z9 (.ref D)/\gL K C=Z7/\gL K D=Z7/\ZX K (.ref C) (.ref D)=Z9 Z7
structure sT (Γ:Gm)(K:Z5)(mg:Str->Option Value):Prop where
 sub:∀c C b,Γ.sub.contains (c,C,b)=Z7->Q6 K mg c C b
 rs:∀c,Γ.rs.contains c=Z7->DL K mg c
 hV:∀c B,Γ.hV.contains (c,B)=Z7->Q7 K mg c B
structure Cok (Γ:Gm)(Κ:List D)(Φ:List Fn)(X:Cx)(r:Nat):Prop where
 hN:X.N=Γ.N
 hs:X.env.scope=Γ.sc
 nd:Γ.N.Nodup
 fn:Γ.blk=Z6->∀x,X.fn x=Z7
 kind:Γ.sc.kind=.function
 free:∀x,Γ.free.contains x=Z7->X.mg x=Z8
 fns:∀(j:Nat) f n,Γ.fns[j]?=Z9 (f,n)->∃m k ps,Φ[j]?=Z9 m/\k<=r/\Cal X.prog X.w X.K X.mg X.base k f ps (spD X.K n m)
 cst:∀(j:Nat) x,Γ.cst[j]?=Z9 x->∃d a,Κ[j]?=Z9 d/\X.mg x=Z9 (.ref a)/\∀H B,B Z8->Rep X.K H B (.ref a) d
 qH:∀(j:Nat) f n,Γ.fns[j]?=Z9 (f,n)->∃m k ps,Φ[j]?=Z9 m/\k<=r/\nW X.prog X.w X.K X.mg X.base k f ps n m
 room:Γ.cm=Z7->Room r X.A
 calm:Γ.cm=Z7->X.calm=Z7
 hu:X.A.units+64<cLine
 nY:Γ.blk=Z6->X.stack=X.env::X.outer/\X.env.frame=Z9 X.env.locals
 As:Γ.xc=Z8->X.fx=Z8
 xc:∀n c,Γ.xc=Z9 (n,c)->∃a oe C,X.fx=Z9 (n,.ref a)/\Xh X a oe/\oe.cls=.ref C/\X.mg c=Z9 (.ref C)
 xk:sT Γ X.K X.mg
theorem Cok.gl (k:Cok a Κ Φ X r)(h:nM a x=Z7):Gl X x/\Xv x:=by unfold nM at h;rw[cg]at h;refine⟨?_,by simpa using h.2⟩;show X.env.scope.names.lookup x=_;rw[k.hs];simpa using h.1
theorem Cok.aS (k:Cok b Κ Φ X r)(h:nK b i x=Z7):X.N[i]?=Z9 x/\Vis X.env.scope x/\Xv x/\(x==("__classdict__":Str))=false:=by
 unfold nK at h;simp at h;have⟨⟨⟨h1,a⟩,h3⟩,h4⟩:=h;refine⟨by rw[k.hN];exact h1,?_,by simpa using h3,by simpa using h4⟩;rw[k.hs];rcases a with(a|a)|a
 .exact .inl a
 .exact .inr (.inl a)
 .exact .inr (.inr a)
theorem Cok.loc (k:Cok b Κ Φ X r)(h:lJ b i x=Z7):X.N[i]?=Z9 x/\Loc X.env.scope x/\(X.fn x=Z7\/X.env.scope.names.lookup x=Z9 .local):=by
 unfold lJ at h;simp at h;obtain⟨c,a⟩:=h;refine⟨by rw[k.hN];exact c,?_,?_⟩
 .unfold L2.Loc;rw[k.hs];rcases a with a|⟨_,a⟩
  .exact .inl a
  .exact .inr a
 .rcases a with a|⟨a,_⟩
  .exact .inr (k.hs▸a)
  .exact .inl (k.fn a x)
theorem Cok.blt (k:Cok a Κ Φ X r)(h:dW a x=Z7):Gl X x/\X.mg x=Z8/\Xv x/\x≠"__name__":=by unfold dW at h;simp only[au]at h;obtain⟨⟨b,c⟩,d⟩:=h;obtain⟨g1,g2⟩:=k.gl b;exact⟨g1,k.free x c,g2,by simpa using d⟩
theorem Q8 {C:Addr}:(blk X scope a C b s H).env.scope=z7 scope X.env.scope:=rfl
theorem Cok.blk (k:Cok a Κ Φ X r)(c:scope.kind=.function)(nd:b.Nodup)(C:Addr)(d:List Addr)(s:bb)(H:Hp):Cok {a with N:=b,sc:=z7 scope a.sc,blk:=Z7,xc:=Z8} Κ Φ (blk X scope b C d s H) r where
 hN:=rfl
 hs:=by rw[Q8,k.hs]
 nd:=nd
 fn:=λz=>by cases z
 kind:=c
 free:=k.free
 fns:=k.fns
 cst:=k.cst
 qH:=k.qH
 room:=k.room
 calm:=k.calm
 hu:=k.hu
 nY:=λz=>by cases z
 As:=λ_=>rfl
 xc:=λ_ _ z=>by cases z
 xk:=⟨k.xk.sub,k.xk.rs,k.xk.hV⟩
theorem Q9 (k:Cok a Κ Φ X r)(all:List Nat):∀{es:List Expr},CN a is es=Z7->PGs X es (nR X.K all is)/\(gm es X.env).length=is.length/\(gm es X.env).findIdx? (·.1)=none:=by
 induction is with
 |nil=>intro es h;cases fL h;exact⟨PL,rfl,rfl⟩
 |cons i is b=>
  intro es h;cases es with
  |nil=>cases h
  |cons e es=>
   obtain⟨h0,c⟩:=aE h;obtain⟨x,p,rfl,h0⟩:=kN h0;obtain⟨d,f,g⟩:=k.loc h0;obtain⟨a1,a2,a3⟩:=b c;refine⟨PM (k.hN▸k.nd) d f g a1,?_,?_⟩
   .show(gm es X.env).length+1=_;rw[a2];rfl
   .show((Z6,qe (.Name x p) X.env)::gm es X.env).findIdx? (·.1)=Z8;rw[fy,a3];rfl
theorem vZ (k:Cok b Κ Φ X r)(h:qz b t e=Z7):PG X e (tDG X.K t):=by
 cases t with
 |nm i=>obtain⟨x,p,rfl,a⟩:=kN h;obtain⟨c,d,f⟩:=k.loc a;exact PJ (k.hN▸k.nd) c d f
 |tp is=>obtain⟨h0,h⟩:=aE h;obtain⟨v,g,a⟩:=aK h;obtain⟨_,_,rfl⟩:=Ar g;obtain⟨a1,a2,a3⟩:=Q9 k is a;exact PN (k.calm h0) a1 rfl a3 a2.symm
theorem Jg (h:plainT e=Z7)(env:Env):∀a,rh e env a=(do let v <-a;standAt e.pos;holding [v] (truthy v)):=by
 intro a;cases e<;>first|(cases h;done)|rfl|skip
 rename_i b x p;cases b<;>first|(cases h;done)|rfl
theorem wa (h:sH e=Z7)(env:Env):∀x,gf e env x=pure x:=by intro x;cases e<;>first|(cases h;done)|rfl
variable (Κ:List D)(Φ:List Fn)
theorem Ra (c:C):∀b es d f,eL b c es=Z7->eF Κ Φ c d=.ok f->f.length=es.length/\(es.all λe=>!isStar e)=true:=by
 induction c with
 |nil=>intro b es d f h e;cases fL h;cases e;exact⟨rfl,rfl⟩
 |cons a r _ i=>
  intro b es d f h e;cases es with
  |nil=>cases h
  |cons x es=>obtain⟨j,_,k⟩:=aU h;obtain⟨y,_,e⟩:=Res.aA e;obtain⟨g,l,e⟩:=Res.aA e;cases e;obtain⟨m,n⟩:=i b es d g k l;exact⟨by rw[bh,bh,m],by rw[db,n,j];rfl⟩
 |_=>exact λ_ _ _ _ h=>ff rfl h
end
section
theorem Rb (h:tyB a T t=Z7):∃x p,t=.Name x p/\x=Str.ofString T/\dW a x=Z7/\T∈tysB:=by obtain⟨x,p,e,h⟩:=kN h;obtain⟨b,c,d⟩:=aU h;exact⟨x,p,e,uc b,c,cr.mp d⟩
theorem ym (h:(a||b)=Z7)(n:b=Z6):a=true:=by rw[n,p8]at h;exact h
theorem Rc (h:T∈tysB):dk (Str.ofString T)=Z9 (.type T):=by simp only[tysB,bq,gv,or_false]at h;rcases h with rfl|rfl|rfl|rfl|rfl<;>decide+kernel
variable (Κ:List D)(Φ:List Fn)
theorem qI:∀{c:C} {es:List Expr},eL g c es=Z7->(es.all λe=>!isStar e)=true:=by
 intro c
 induction c with
 |nil=>intro es h;cases fL h;rfl
 |cons a r _ b=>
  intro es h;cases es with
  |nil=>rfl
  |cons e es=>obtain⟨d,_,f⟩:=aU h;rw[db,b f,d];rfl
 |_=>exact λh=>ff rfl h
theorem Au (h:eL d c es=Z7):∀b a,eF Κ Φ c b=.ok a->a.length=es.length:=λb a e=>(Ra Κ Φ c d es b a h e).1
structure Sd (c:C):Prop where
 E:∀(Γ:Gm) (X:Cx) (r:Nat) (e:Expr),Cok Γ Κ Φ X r->chkE Γ c e=Z7->PE X e (tD X.K (aL Κ Φ c))
 T:∀(Γ:Gm) (X:Cx) (r:Nat) (e:Expr),Cok Γ Κ Φ X r->eK Γ c e=Z7->PT X e (eD X.K (eA Κ Φ c))/\((∃o l p,e=.BoolOp o l p)->PW X e (eD X.K (eA Κ Φ c)))
 Q:∀(Γ:Gm) (X:Cx) (r:Nat) (l:Expr) (ops:List CmpOp) (rs:List Expr) (pos:Pos),Cok Γ Κ Φ X r->chkE Γ c (.Compare l ops rs pos)=Z7->PT X (.Compare l ops rs pos) (eD X.K λρ=>aL Κ Φ c ρ>>=λx=>kK x.2)
 A:∀(Γ:Gm) (X:Cx) (r:Nat) (es:List Expr),Cok Γ Κ Φ X r->eL Γ c es=Z7->PA X es (tDA X.K (eF Κ Φ c))
 O:∀(Γ:Gm) (X:Cx) (r:Nat) (e:Option Expr),Cok Γ Κ Φ X r->qA Γ c e=Z7->PO X e (tDO X.K (uz Κ Φ c))
 W:∀(Γ:Gm) (X:Cx) (r:Nat) (e tg:Expr),Cok Γ Κ Φ X r->Ac c tg=Z7->lM Γ c e=Z7->PI X tg e (tDW X.K (evW Κ Φ c))
 G:∀(Γ:Gm) (X:Cx) (r:Nat) (e:Expr),Cok Γ Κ Φ X r->uE Γ c e=Z7->∃a,c=.tv a/\PE X e (tD X.K (aL Κ Φ a))
def qJ:C->Nat
 |.and _ _|.or _ _|.not _|.tv _|.nil|.cons _ _|.eI _|.enum _=>2
 |.cmp _ _ _|.iY _ _=>1
 |_=>0
variable {Κ:List D}{Φ:List Fn}
theorem Rf (h:qJ c<2):eK a c e=false:=by cases c<;>first|rfl|exact absurd h (dm 2)
theorem Rg (h:qJ c<2):eL a c es=false:=by cases c<;>first|rfl|exact absurd h (dm 2)
theorem Rh (h:qJ c<2):qA a c o=false:=by cases c<;>first|rfl|exact absurd h (dm 2)
theorem Ri (h:qJ c<2):lM a c e=false:=by cases c<;>first|rfl|exact absurd h (dm 2)
theorem Rj (h:qJ c<2):uE a c e=false:=by cases c<;>first|rfl|exact absurd h (dm 2)
theorem Sd.q (f:∀a X r e,Cok a Κ Φ X r->chkE a c e=Z7->PE X e (tD X.K (aL Κ Φ c)))(g:∀a X r l b rs pos,Cok a Κ Φ X r->chkE a c (.Compare l b rs pos)=Z7->PT X (.Compare l b rs pos) (eD X.K λρ=>aL Κ Φ c ρ>>=λx=>kK x.2))(d:qJ c<2):Sd Κ Φ c:=⟨f,λ_ _ _ _ _ h=>ff (Rf d) h,g,λ_ _ _ _ _ h=>ff (Rg d) h,λ_ _ _ _ _ h=>ff (Rh d) h,λ_ _ _ _ _ _ _ h=>ff (Ri d) h,λ_ _ _ _ _ h=>ff (Rj d) h⟩
theorem Rk (h:qJ c=0):chkE b c (.Compare l a rs pos)=false:=by cases c<;>first|rfl|(cases h;done)
theorem Sd.x (b:∀Γ X r e,Cok Γ Κ Φ X r->chkE Γ c e=Z7->PE X e (tD X.K (aL Κ Φ c)))(a:qJ c=0):Sd Κ Φ c:=Sd.q b (λ_ _ _ _ _ _ _ _ h=>ff (Rk a) h) (a▸Nat.zero_lt_two)
theorem Rl:Sd Κ Φ (.var i):=Sd.x (λf X r e k h=>by obtain⟨x,p,rfl,h⟩:=kN h;obtain⟨a,b,c,d⟩:=k.aS h;exact O' a b c d) rfl
theorem Rm:Sd Κ Φ .aO:=Sd.x (λa X r e k h=>by obtain⟨_,_,rfl⟩:=uJ (t8 h);exact Ae Nu λ_ _=>rfl) rfl
theorem DM {b:Bool}:Sd Κ Φ (.bl b):=Sd.x (λa X r e k h=>by obtain⟨_,_,rfl⟩:=uJ (t8 h);exact Ae Nt λ_ _=>rfl) rfl
theorem Rn {b:Int}:Sd Κ Φ (.int b):=Sd.x (λa X r e k h=>by obtain⟨_,_,rfl⟩:=uJ (t8 h);exact Ae Nr λ_ _=>rfl) rfl
theorem Ro {b:Str}:Sd Κ Φ (.str b):=Sd.x (λd X r e k h=>by obtain⟨a,c⟩:=aE h;obtain⟨_,_,rfl⟩:=uJ (t8 a);exact Ae GS λ_ _=>⟨rfl,c⟩) rfl
theorem Rp (d:Sd Κ Φ a)(f:Sd Κ Φ b):Sd Κ Φ (.bin o a b):=Sd.x (λc X r e k h=>by obtain⟨v,g,i⟩:=aK h;obtain⟨p,rfl⟩:=Q4 g;obtain⟨j,l,m,n⟩:=bL i;cases t8 j;exact Pa l (d.E c X r _ k m) (f.E c X r _ k n)) rfl
theorem Rq (b:Sd Κ Φ a):Sd Κ Φ (.neg a):=Sd.x (λc X r e k h=>by obtain⟨⟨o,x⟩,d,f⟩:=aK h;obtain⟨p,rfl⟩:=qG d;obtain⟨g,i⟩:=aE f;cases t8 g;exact Pb (b.E c X r _ k i)) rfl
theorem Jh (h:chkE g (.cmp c a b) e=Z7):∃l r p,e=.Compare l [c] [r] p/\z4r c=Z7/\d6 c r=Z6/\chkE g a l=Z7/\chkE g b r=true:=by obtain⟨⟨l,o,rs⟩,i,j⟩:=aK h;obtain⟨p,rfl⟩:=nX i;obtain⟨k,d⟩:=aE j;obtain⟨r,hr,f⟩:=aK d;cases t8 k;cases fR hr;obtain⟨d,f,m,n⟩:=bL f;exact⟨l,r,p,rfl,d,cG f,m,n⟩
theorem Rr (j:Sd Κ Φ a)(m:Sd Κ Φ b):Sd Κ Φ (.cmp s a b):=Sd.q (λc X r e k h=>by
 obtain⟨_,_,_,rfl,d,f,g,i⟩:=Jh h;exact zss k.hu d f (j.E c X r _ k g) (m.E c X r _ k i)) (λc X r l n rs p k h=>by
 obtain⟨_,_,_,o,d,f,g,i⟩:=Jh h;cases o;exact zts k.hu d f (j.E c X r _ k g) (m.E c X r _ k i)) Nat.one_lt_two
theorem Ji (h:((nN e).any λv=>decide (v.2.1=[o])&&(bI v.2.2).any λr=>decide (fJ r=Z9 w)&&chkE b a v.1)=Z7):∃l k q p,e=.Compare l [o] [.Constant w k q] p/\chkE b a l=true:=by obtain⟨⟨l,o,rs⟩,c,d⟩:=aK h;obtain⟨p,rfl⟩:=nX c;obtain⟨f,g⟩:=aE d;obtain⟨r,hr,i⟩:=aK g;obtain⟨j,m⟩:=aE i;cases t8 f;cases fR hr;obtain⟨_,_,rfl⟩:=uJ (t8 j);exact⟨_,_,_,_,rfl,m⟩
theorem Rt (d:Sd Κ Φ a):Sd Κ Φ (.iY i a):=Sd.q (λb X r e k h=>by
 obtain⟨_,_,_,_,rfl,c⟩:=Ji h;exact Pd rfl (d.E b X r _ k c)) (λb X r l f rs p k h=>by
 obtain⟨_,_,_,_,g,c⟩:=Ji h;cases g;exact Pe rfl (d.E b X r _ k c)) Nat.one_lt_two
theorem uM (h:sM f g o p a=Z7):(∃x y,a=[x,y]/\f x=Z7/\g y=Z7)\/∃x y z r,a=x::y::z::r/\f x=Z7/\g (.BoolOp o (y::z::r) p)=true:=by
 rcases a with _|⟨x,_|⟨y,_|⟨z,a⟩⟩⟩
 .cases h
 .cases h
 .exact .inl ⟨x,y,rfl,(aE h).1,(aE h).2⟩
 .exact .inr ⟨x,y,z,a,rfl,(aE h).1,(aE h).2⟩
theorem Ru (g:Sd Κ Φ a)(i:Sd Κ Φ b):Sd Κ Φ (.and a b) where
 E:=λc X r e k h=>by
  obtain⟨⟨o,q,p⟩,j,l⟩:=aK h;cases jQ j;obtain⟨m,n⟩:=aE l;cases t8 m;rcases uM n with⟨x,y,rfl,d,f⟩|⟨x,y,z,t,rfl,d,f⟩
  .exact Ij (g.E c X r _ k d) (BU (i.E c X r _ k f))
  .exact Ij (g.E c X r _ k d) (i.E c X r _ k f)
 T:=λc X r e k h=>by
  obtain⟨⟨o,q,p⟩,j,l⟩:=aK h;cases jQ j;obtain⟨m,n⟩:=aE l;cases t8 m;rcases uM n with⟨x,y,rfl,d,f⟩|⟨x,y,z,t,rfl,d,f⟩
  .have w:=w_and (pos:=p) (g.T c X r _ k d).1 (GW (i.T c X r _ k f).1);exact⟨w.pt,λ_=>w⟩
  .have w:=w_and (g.T c X r _ k d).1 ((i.T c X r _ k f).2 ⟨_,_,_,rfl⟩);exact⟨w.pt,λ_=>w⟩
 Q:=λ_ _ _ _ _ _ _ _ h=>ff rfl h
 A:=λ_ _ _ _ _ h=>ff rfl h
 O:=λ_ _ _ _ _ h=>ff rfl h
 W:=λ_ _ _ _ _ _ _ h=>ff rfl h
 G:=λ_ _ _ _ _ h=>ff rfl h
theorem DN (g:Sd Κ Φ a)(i:Sd Κ Φ b):Sd Κ Φ (.or a b) where
 E:=λc X r e k h=>by
  obtain⟨⟨o,q,p⟩,j,l⟩:=aK h;cases jQ j;obtain⟨m,n⟩:=aE l;cases t8 m;rcases uM n with⟨x,y,rfl,d,f⟩|⟨x,y,z,t,rfl,d,f⟩
  .exact yg (g.E c X r _ k d) (BU (i.E c X r _ k f))
  .exact yg (g.E c X r _ k d) (i.E c X r _ k f)
 T:=λc X r e k h=>by
  obtain⟨⟨o,q,p⟩,j,l⟩:=aK h;cases jQ j;obtain⟨m,n⟩:=aE l;cases t8 m;rcases uM n with⟨x,y,rfl,d,f⟩|⟨x,y,z,t,rfl,d,f⟩
  .have w:=w_or (pos:=p) (g.T c X r _ k d).1 (GX (i.T c X r _ k f).1);exact⟨w.pt,λ_=>w⟩
  .have w:=w_or (g.T c X r _ k d).1 ((i.T c X r _ k f).2 ⟨_,_,_,rfl⟩);exact⟨w.pt,λ_=>w⟩
 Q:=λ_ _ _ _ _ _ _ _ h=>ff rfl h
 A:=λ_ _ _ _ _ h=>ff rfl h
 O:=λ_ _ _ _ _ h=>ff rfl h
 W:=λ_ _ _ _ _ _ _ h=>ff rfl h
 G:=λ_ _ _ _ _ h=>ff rfl h
theorem Rv (i:Sd Κ Φ a):Sd Κ Φ (.not a) where
 E:=λb X r e k h=>by obtain⟨⟨o,x⟩,c,d⟩:=aK h;obtain⟨p,rfl⟩:=qG c;obtain⟨f,g⟩:=aE d;cases t8 f;exact Pg (i.E b X r _ k g)
 T:=λb X r e k h=>by obtain⟨⟨o,x⟩,c,d⟩:=aK h;obtain⟨p,rfl⟩:=qG c;obtain⟨f,g⟩:=aE d;cases t8 f;exact⟨mM (i.T b X r _ k g).1,λ⟨_,_,_,z⟩=>by cases z⟩
 Q:=λ_ _ _ _ _ _ _ _ h=>ff rfl h
 A:=λ_ _ _ _ _ h=>ff rfl h
 O:=λ_ _ _ _ _ h=>ff rfl h
 W:=λ_ _ _ _ _ _ _ h=>ff rfl h
 G:=λ_ _ _ _ _ h=>ff rfl h
theorem Rw (h:Ib e=Z7):∃l o r p,e=.Compare l o r p:=by cases e<;>first|exact ff rfl h|exact⟨_,_,_,_,rfl⟩
theorem DO (d:Sd Κ Φ a):Sd Κ Φ (.tv a) where
 E:=λ_ _ _ _ _ h=>ff rfl h
 T:=λb X r e k h=>by
  obtain⟨c,f⟩:=aE h;rcases fi.mp c with c|c
  .exact⟨Ph (d.E b X r _ k f) (Jg c _),λ⟨_,_,_,z⟩=>by subst z;cases c⟩
  .obtain⟨_,_,_,_,rfl⟩:=Rw c;exact⟨d.Q b X r _ _ _ _ k f,λ⟨_,_,_,z⟩=>by cases z⟩
 Q:=λ_ _ _ _ _ _ _ _ h=>ff rfl h
 A:=λ_ _ _ _ _ h=>ff rfl h
 O:=λb X r e k h=>by obtain⟨v,rfl,h⟩:=aK h;exact Pu (d.E b X r _ k h)
 W:=λb X r e g k _ h=>fK (d.E b X r _ k (aE h).2)
 G:=λb X r e k h=>⟨a,rfl,d.E b X r _ k h⟩
theorem Rx (f:Sd Κ Φ c)(g:Sd Κ Φ a)(i:Sd Κ Φ b):Sd Κ Φ (.sD c a b):=Sd.x (λd X r e k h=>by obtain⟨v,j,l⟩:=aK h;obtain⟨p,rfl⟩:=Je j;obtain⟨m,n,o⟩:=aU l;exact Pj (f.T d X r _ k m).1 (g.E d X r _ k n) (i.E d X r _ k o)) rfl
theorem Ry (c:Sd Κ Φ a):Sd Κ Φ (.tup a):=Sd.x (λd X r e k h=>by obtain⟨v,f,g⟩:=aK h;obtain⟨_,_,rfl⟩:=Ar f;obtain⟨i,b⟩:=aE g;exact Pk (c.A d X r _ k b) λj l e=>by rw[Au Κ Φ b j l e];exact HX (t8 i)) rfl
theorem RA (c:Sd Κ Φ a):Sd Κ Φ (.lst a):=Sd.x (λd X r e k h=>by obtain⟨v,f,g⟩:=aK h;obtain⟨_,rfl⟩:=Jf f;obtain⟨i,b⟩:=aE g;exact Pl (c.A d X r _ k b) λj l e=>by rw[Au Κ Φ b j l e];exact HX (t8 i)) rfl
theorem RB:Sd Κ Φ .hG:=Sd.x (λi X r e k h=>by obtain⟨⟨a,b⟩,c,d⟩:=aK h;obtain⟨_,rfl⟩:=uK c;obtain⟨f,g⟩:=aE d;cases fL f;cases fL g;exact Pm) rfl
theorem DP (d:Sd Κ Φ a)(f:Sd Κ Φ b):Sd Κ Φ (.ix a b):=Sd.x (λc X r e k h=>by obtain⟨v,g,i⟩:=aK h;obtain⟨_,rfl⟩:=vY g;obtain⟨j,l,m⟩:=aU i;exact d_ix k.hu j (d.E c X r _ k l) (f.E c X r _ k m)) rfl
theorem DQ {c:C}(d:Sd Κ Φ a)(f:Sd Κ Φ c)(g:Sd Κ Φ j):Sd Κ Φ (.sl a c j):=Sd.x (λb X r e k h=>by obtain⟨⟨x,i⟩,m,n⟩:=aK h;obtain⟨_,rfl⟩:=vY m;obtain⟨⟨l,u,s⟩,hs,o⟩:=aK n;obtain⟨_,rfl⟩:=Q5 hs;obtain⟨p,q,t,v⟩:=bL o;cases fq.mp p;exact d_sl (d.E b X r _ k q) (f.O b X r _ k t) (g.O b X r _ k v)) rfl
theorem RC (i:Sd Κ Φ args):Sd Κ Φ (.call j f args):=Sd.x (λl X r e k h=>by
 obtain⟨⟨x,es⟩,n,o⟩:=aK h;obtain⟨_,_,rfl⟩:=jR n;obtain⟨a,p,q,b,s⟩:=dF o;obtain⟨y,es,rfl⟩:=qF s;obtain⟨h0,a⟩:=aE a;cases uc a;obtain⟨g1,g2⟩:=k.gl p;obtain⟨m,kk,ps,t,u,v⟩:=k.fns j _ _ (uc q);refine PE.imp (zog v (k.room h0) u (i.A l X r _ k b) (qI b) g1 g2 (Au Κ Φ b)) λz H Q g=>?_
 have w:aL Κ Φ (.call j x args)=λc=>eF Κ Φ args c>>=λd=>m (d.map (·.2))>>=λr=>.ok (gJ r.2 (kL r.1),r.2):=by
  funext c
  show(eF Κ Φ args c>>=λd=>match Φ[j]? with|some m=>m (d.map (·.2))>>=λr=>.ok (gJ r.2 (kL r.1),r.2)|none=>.no)=_;rw[t]
 rw[w]at g;exact g) rfl
theorem DR (j:Sd Κ Φ args):Sd Κ Φ (.bi f args):=Sd.x (λl X r e k h=>by
 obtain⟨⟨x,es⟩,m,n⟩:=aK h;obtain⟨_,_,rfl⟩:=jR m;obtain⟨a,o,i,b,p⟩:=dF n;obtain⟨y,es,rfl⟩:=qF p;have a:=uc a;obtain⟨g1,g2,g3,d⟩:=k.blt o;obtain⟨i,c⟩:=aE i;have hf:=cr.mp i;have g:=j.A l X r _ k b;simp at hf;rcases hf with rfl|rfl|rfl|rfl
 .exact d_cB Ir g2 (by rw[a];decide+kernel) g (qI b) g1 d g3
 .exact d_cB (Pw (k.calm (ym c rfl))) g2 (by rw[a];decide+kernel) g (qI b) g1 d g3
 .exact d_cB (Px (k.calm (ym c rfl))) g2 (by rw[a];decide+kernel) g (qI b) g1 d g3
 .exact zu9 QI g2 (by rw[a];decide+kernel) g (qI b) g1 d g3) rfl
theorem RD (l:Sd Κ Φ a):Sd Κ Φ (.kJ f a):=Sd.x (λm X r e k h=>by
 obtain⟨⟨x,es⟩,n,o⟩:=aK h;obtain⟨_,_,rfl⟩:=jR n;obtain⟨p,q,b,s⟩:=bL o;obtain⟨y,t,u⟩:=aK s;obtain⟨v,w⟩:=aE u;cases fR t;have c:=uc p;obtain⟨g1,g2,g3,d⟩:=k.blt q;obtain⟨a,rfl,g⟩:=l.G m X r _ k w;have i:=cG v;obtain⟨b,j⟩:=aE b;have hf:=cr.mp b;simp only[x8,bq,gv,or_false]at hf;rcases hf with rfl|rfl|rfl
 .exact zj7 Ql g2 (by rw[c];decide+kernel) i g g1 d g3
 .exact zpg (QD k.hu) g2 (by rw[c];decide+kernel) i g g1 d g3
 .exact zj7 (Qz (k.calm j)) g2 (by rw[c];decide+kernel) i g g1 d g3) rfl
theorem RE (c:Sd Κ Φ a):Sd Κ Φ (.fY a ts):=Sd.x (λd X r e k h=>by obtain⟨⟨x,es⟩,f,g⟩:=aK h;obtain⟨_,_,rfl⟩:=jR f;obtain⟨i,j,l⟩:=aU g;obtain⟨⟨y,t⟩,m,n⟩:=aK l;obtain⟨o,p,q⟩:=aU n;obtain⟨T,s,u⟩:=aK q;cases DK m;cases fR s;cases uc i;obtain⟨g1,g2,g3,C⟩:=k.blt j;obtain⟨D,F,rfl,rfl,v,b⟩:=Rb u;obtain⟨w,z,A,B⟩:=k.blt v;exact zub g2 g1 z (Rc b) w B A b (cG o) (c.E d X r _ k p)) rfl
theorem DS (o:Sd Κ Φ a)(p:Sd Κ Φ args):Sd Κ Φ (.mt m a args):=Sd.x (λd X r e k h=>by
 obtain⟨⟨x,n,es,b⟩,q,s⟩:=aK h;obtain⟨C,D,rfl,t⟩:=jS q;obtain⟨h0,u,c,v⟩:=bL s;obtain⟨w,z,f,B,g⟩:=dF h0;obtain⟨y,es,rfl⟩:=qF v;cases uc w;have i:=t.symm.trans B;have j:=o.E d X r _ k u;have l:=p.A d X r _ k c;have hm:=cr.mp z;simp at hm;rcases hm with rfl|rfl
 .exact d_mt PySem.F.plainAttrs_dict PySem.F.slot_dict_get PySem.F.type_dict_get (PY k.hu) (λ_ _ _ _ _ _ r e=>PZ r e) j l f (qI c) (t8 g) i
 .exact d_mt PySem.F.plainAttrs_str PySem.F.slot_str_join PySem.F.type_str_join P2 (λ_ _ _ _ _ _ r e=>P4 r e) j l f (qI c) (t8 g) i) rfl
theorem RF (g:Sd Κ Φ c)(k:Cok f Κ Φ X n)(h:x4 (x5 c) (λt=>eK f c t) a=Z7):pQ X a (eD X.K (eA Κ Φ c)):=by
 cases a with
 |nil=>
  have:c=.nil:=by cases c<;>first|exact ff rfl h|rfl
  subst this;refine λd s i H Q I q=>HS d s i H Q I ?_;obtain⟨m,F,b,so,e,q⟩:=q;cases e;exact q H (Same.refl H)
 |cons t r=>obtain⟨j,l⟩:=aE h;cases fL j;exact HU (g.T f X n t k l).1
theorem sC {c:C}(w:Sd Κ Φ it)(y:Sd Κ Φ c)(z:Sd Κ Φ f)(k:Cok l Κ Φ X r)(h:chkE l (.comp p A j q it c f) e=Z7):
  ∃el t i d a pos,e=.ListComp el [⟨t,i,d,0⟩] a pos/\BlkScope X a j p A/\(∀i∈tgIx q,i<p)/\PI X t i (tDW X.K (evW Κ Φ it))/\(∀C b s H,PG (blk X a j C b s H) t (tDG X.K q))/\(∀C b s H,pQ (blk X a j C b s H) d (eD X.K (eA Κ Φ c)))/\(∀C b s H,PE (blk X a j C b s H) el (tD X.K (aL Κ Φ f)))/\(∀x,gf i X.env x=pure x)/\l.cm=true:=by
 obtain⟨⟨el,O,a⟩,B,g⟩:=aK h;obtain⟨pos,rfl⟩:=yl B;obtain⟨⟨t,i,d,kk⟩,D,g⟩:=aK g;cases fR D;obtain⟨h0,u,F,G,g⟩:=dF g;obtain⟨m,I,J,L,M⟩:=dF h0;obtain⟨n,m⟩:=aE m;cases uc m;have v:=HR k.hN k.hs J;have o:=λC b s H=>k.blk v.kind (t8 M) C b s H;exact⟨el,t,i,d,a,pos,rfl,v,λi N=>t8 ((cc.mp I) i N),w.W l X r _ t k (aE u).2 F,λC b s H=>vZ (o C b s H) (aE u).1,λC b s H=>RF y (o C b s H) G,λC b s H=>z.E _ _ r _ (o C b s H) g,wa L _,n⟩
theorem RG {a:C}(f:Sd Κ Φ it)(g:Sd Κ Φ a)(j:Sd Κ Φ b):Sd Κ Φ (.comp u v w y it a b):=Sd.x (λz X r e k h=>by obtain⟨el,t,i,l,c,pos,rfl,m,n,o,p,q,s,hs,d⟩:=sC f g j k h;exact(zbv (k.calm d) m n o p q s hs).1) rfl
theorem RH {b:Bool}:Sd Κ Φ (.uw b x):=Sd.x (λP X r e k h=>by obtain⟨⟨f,es⟩,j,l⟩:=aK h;obtain⟨_,_,rfl⟩:=jR j;obtain⟨m,o,p⟩:=aU l;obtain⟨⟨Q,R⟩,q,s⟩:=aK p;cases DK q;obtain⟨⟨n,c⟩,t,w⟩:=aK s;obtain⟨d,g⟩:=aE w;obtain⟨S,T,hn,d⟩:=kN d;obtain⟨C,U,y,g⟩:=kN g;cases hn;cases y;obtain⟨a1,a2,a3,a4⟩:=bL d;obtain⟨z,B,D⟩:=aU g;cases uc m;cases uc a1;cases uc z;obtain⟨g1,g2,g3,V⟩:=k.blt o;obtain⟨E,F⟩:=k.gl B;obtain⟨a,W,Y,G,H,I,i⟩:=k.xc n c t;obtain⟨A,v,u,J,xa,K,L,M,N,O⟩:=k.xk.sub c x b D;rw[J]at i;cases i;exact ztd g2 g1 G (k.hs▸uc a2) (cG a3) H I E O M N F xa K L) rfl
theorem RI:Sd Κ Φ .nil where
 E:=λ_ _ _ _ _ h=>ff rfl h
 T:=λ_ _ _ _ _ h=>ff rfl h
 Q:=λ_ _ _ _ _ _ _ _ h=>ff rfl h
 A:=λa X r es k h=>by cases fL h;exact Im
 O:=λa X r e k h=>by cases fq.mp h;exact uG
 W:=λ_ _ _ _ _ _ _ h=>ff rfl h
 G:=λ_ _ _ _ _ h=>ff rfl h
theorem RJ (d:Sd Κ Φ a)(f:Sd Κ Φ b):Sd Κ Φ (.cons a b) where
 E:=λ_ _ _ _ _ h=>ff rfl h
 T:=λ_ _ _ _ _ h=>ff rfl h
 Q:=λ_ _ _ _ _ _ _ _ h=>ff rfl h
 A:=λc X r es k h=>by
  cases es with
  |nil=>cases h
  |cons e es=>obtain⟨g,i,j⟩:=aU h;exact Io (cG g) (d.E c X r _ k i) (f.A c X r _ k j)
 O:=λ_ _ _ _ _ h=>ff rfl h
 W:=λ_ _ _ _ _ _ _ h=>ff rfl h
 G:=λ_ _ _ _ _ h=>ff rfl h
theorem RK (g:Sd Κ Φ a):Sd Κ Φ (.eI a) where
 E:=λ_ _ _ _ _ h=>ff rfl h
 T:=λ_ _ _ _ _ h=>ff rfl h
 Q:=λ_ _ _ _ _ _ _ _ h=>ff rfl h
 A:=λ_ _ _ _ _ h=>ff rfl h
 O:=λ_ _ _ _ _ h=>ff rfl h
 W:=λi X r e p k _ h=>by
  obtain⟨⟨x,es⟩,j,l⟩:=aK h;obtain⟨_,_,rfl⟩:=jR j;obtain⟨m,n,b,c⟩:=bL l;obtain⟨c,o⟩:=aE c;cases uc m;obtain⟨g1,g2,g3,q⟩:=k.blt n;have hs:=cc.mp (qI b);have d:=Au Κ Φ b;have f:=g.A i X r _ k b;rcases es with _|⟨x,_|⟨y,_|⟨z,_|⟨w,es⟩⟩⟩⟩
  .cases c
  .exact PD g2 g1 (cG (hs x (.head _))) f d
  .exact PF g2 g1 (cG (hs x (.head _))) (cG (hs y (.tail _ (.head _)))) f d
  .exact QH g2 g1 (cG (hs x (.head _))) (cG (hs y (.tail _ (.head _)))) (cG (hs z (.tail _ (.tail _ (.head _))))) f d
  .exact absurd (t8 o) (Nat.not_le.mpr (m9 (m9 (m9 (Nat.succ_pos _)))))
 G:=λ_ _ _ _ _ h=>ff rfl h
theorem DT (h:isTup e=Z7):∃a b c,e=.Tuple a b c:=by cases e<;>first|exact ff rfl h|exact⟨_,_,_,rfl⟩
theorem Jj (h:lM c (.enum a) e=Z7):∃y q p,e=.Call (.Name "enumerate" q) [y] [] p/\dW c "enumerate"=Z7/\isStar y=Z6/\chkE c a y=true:=by obtain⟨⟨x,es⟩,d,f⟩:=aK h;obtain⟨q,p,rfl⟩:=jR d;obtain⟨g,i,b⟩:=aU f;obtain⟨y,j,b⟩:=aK b;cases fR j;cases uc g;exact⟨y,q,p,rfl,i,cG (aE b).1,(aE b).2⟩
theorem RL (b:Sd Κ Φ a):Sd Κ Φ (.enum a) where
 E:=λ_ _ _ _ _ h=>ff rfl h
 T:=λ_ _ _ _ _ h=>ff rfl h
 Q:=λ_ _ _ _ _ _ _ _ h=>ff rfl h
 A:=λ_ _ _ _ _ h=>ff rfl h
 O:=λ_ _ _ _ _ h=>ff rfl h
 W:=λc X r e j k d h=>by obtain⟨y,q,p,rfl,f,g,i⟩:=Jj h;obtain⟨_,_,_,rfl⟩:=DT d;obtain⟨g1,g2,g3,l⟩:=k.blt f;exact QO g2 g1 g (b.E c X r _ k i)
 G:=λ_ _ _ _ _ h=>ff rfl h
theorem RM (b:qJ c=0)(hn:∀a e,chkE a c e=Z6):Sd Κ Φ c:=Sd.x (λa X r e k h=>ff (hn a e) h) b
theorem all (c:C):Sd Κ Φ c:=by
 induction c with
 |var=>exact Rl
 |aO=>exact Rm
 |bl=>exact DM
 |int=>exact Rn
 |str=>exact Ro
 |bin _ _ _ a b=>exact Rp a b
 |neg _ a=>exact Rq a
 |cmp _ _ _ a b=>exact Rr a b
 |iY _ _ a=>exact Rt a
 |and _ _ a b=>exact Ru a b
 |or _ _ a b=>exact DN a b
 |not _ a=>exact Rv a
 |sD _ _ _ d a b=>exact Rx d a b
 |tup _ a=>exact Ry a
 |lst _ a=>exact RA a
 |hG=>exact RB
 |ix _ _ a b=>exact DP a b
 |sl _ _ _ a b d=>exact DQ a b d
 |call _ _ _ a=>exact RC a
 |bi _ _ a=>exact DR a
 |kJ _ _ a=>exact RD a
 |fY _ _ a=>exact RE a
 |mt _ _ _ a b=>exact DS a b
 |comp _ _ _ _ _ _ _ a b d=>exact RG a b d
 |eI _ a=>exact RK a
 |enum _ a=>exact RL a
 |tv _ a=>exact DO a
 |uw=>exact RH
 |nil=>exact RI
 |cons _ _ a b=>exact RJ a b
 |_=>exact RM rfl λ_ _=>rfl
end
section
variable (Κ:List D)(Φ:List Fn)
theorem Aw:jk (.ListComp el a s p) (Z9 (.Name t px)) n env=pure (env.blockKind==.function&&env.kindOf t==Z9 .local&&px.line==p.line&& !(s.names.any λ(n,k)=>n==t&&(k==.local||k==.cell))):=rfl
theorem Jk (hn:lN c=Z6)(h:chkE i c (.ListComp el j s p)=Z7):∃d e f g it a b,c=.comp d e f g it a b:=by cases c<;>first|exact ff rfl h|exact⟨_,_,_,_,_,_,_,rfl⟩|(cases hn;done)
theorem Jl (h:chkE a c (.SetComp el b s p)=Z7):False:=by cases c<;>exact ff rfl h
theorem Jm (h:chkE b c (.DictComp el a d s p)=Z7):False:=by cases c<;>exact ff rfl h
theorem DU (k:Cok f Κ Φ X r)(F:lJ f i x=Z7)(hn:lN c=Z6)(a:chkE f c v=Z7):PS X (.Assign [.Name x px] v pos) (tDS X.K λo=>aL Κ Φ c o>>=λx=>.ok (.nx (o.set i (Z9 (z1o x))))):=by
 obtain⟨h,l2,l3⟩:=k.loc F;have nd:X.N.Nodup:=k.hN▸k.nd;cases hc:kI v with
 |false=>exact zn6 nd h l2 l3 (uq hc _ _ _) ((all c).E f X r _ k a)
 |true=>
  cases v<;>first|(cases hc;done)|skip
  .rename_i el L s p;cases g:(X.env.blockKind==.function&&X.env.kindOf x==Z9 .local&&px.line==p.line&& !(s.names.any λ(n,k)=>n==x&&(k==.local||k==.cell)))with
   |false=>exact zn6 nd h l2 l3 (by rw[Aw,g]) ((all c).E f X r _ k a)
   |true=>
    obtain⟨M,O,P,R,it,b,j,rfl⟩:=Jk hn a;obtain⟨G,t,S,I,l,u,e,w,h0,y,A,B,C,hs,d⟩:=sC (all it) (all b) (all j) k a;cases e;have J:X.env.scope.names.lookup x=Z9 .local:=by simp at g;exact g.1.1.2
    exact PS.imp (zap (k.calm d) nd h J w y A B C (by rw[Aw,g]) hs) λD m H q=>ID (λm H Q z=>(zbv (pos:=p) (k.calm d) w h0 y A B C hs).2 m H Q z) D m H q
  .exact(Jl a).elim
  .exact(Jm a).elim
theorem RN (k:Cok d Κ Φ X r)(hh:x9 d c g e=Z7):PI X g e (tDF X.K (evF Κ Φ c))/\sH e=true:=by
 obtain⟨j,h⟩:=aE hh;have l:=(all c).W d X r e g k j h;cases c with
 |tv a=>
  have b:=PI.IF (k:=λm=>lI Κ Φ (.tv a) m) (Dy ((all a).E d X r _ k (aE h).2)) (IE l);refine⟨?_,(aE h).1⟩;cases a with
  |var i=>obtain⟨x,p,rfl,f⟩:=kN (aE h).2;obtain⟨n,o,s,t⟩:=k.aS f;exact PI.IF (Qd n o s t) b
  |_=>exact b
 |enum a=>obtain⟨y,q,p,rfl,f,u,w⟩:=Jj h;obtain⟨_,_,_,rfl⟩:=DT j;obtain⟨g1,g2,g3,A⟩:=k.blt f;exact⟨QP g2 g1 u ((all a).E d X r _ k w),rfl⟩
 |eI a=>refine⟨IE l,?_⟩;obtain⟨v,z,_⟩:=aK h;obtain⟨_,_,rfl⟩:=jR z;rfl
 |_=>exact ff rfl h
theorem RO (h:isTup v=Z6):p7 [.Tuple a b c] v env=pure none:=by cases v<;>first|rfl|(cases h;done)
theorem nZ (h:vR s=Z9 v):∃p,s=.Assign v.1 v.2 p:=bS (q:=λv=>∃p,s=.Assign v.1 v.2 p) h (by cases s<;>first|exact .inl rfl|exact .inr ⟨_,rfl,_,rfl⟩)
theorem oA (h:vS s=Z9 v):∃p,s=.Expr v p:=bS (q:=λv=>∃p,s=.Expr v p) h (by cases s<;>first|exact .inl rfl|exact .inr ⟨_,rfl,_,rfl⟩)
theorem yn (h:CU s=Z9 v):∃p,s=.Return v p:=bS (q:=λv=>∃p,s=.Return v p) h (by cases s<;>first|exact .inl rfl|exact .inr ⟨_,rfl,_,rfl⟩)
theorem yo (h:CV s=Z9 v):∃p,s=.If v.1 v.2.1 v.2.2 p:=bS (q:=λv=>∃p,s=.If v.1 v.2.1 v.2.2 p) h (by cases s<;>first|exact .inl rfl|exact .inr ⟨_,rfl,_,rfl⟩)
theorem qK (h:ya s=Z9 v):∃p,s=.For v.1 v.2.1 v.2.2.1 v.2.2.2 p:=bS (q:=λv=>∃p,s=.For v.1 v.2.1 v.2.2.1 v.2.2.2 p) h (by cases s<;>first|exact .inl rfl|exact .inr ⟨_,rfl,_,rfl⟩)
theorem yp (h:CW s=Z9 v):∃p,s=.While v.1 v.2.1 v.2.2 p:=bS (q:=λv=>∃p,s=.While v.1 v.2.1 v.2.2 p) h (by cases s<;>first|exact .inl rfl|exact .inr ⟨_,rfl,_,rfl⟩)
structure Ss (s:S):Prop where
 R:∀(Γ:Gm) (X:Cx) (r:Nat) (st:Stmt),Cok Γ Κ Φ X r->gc (model X.prog X.w) X.A X.env X.xe->uF Γ s st=Z7->PS X st (tDS X.K (aV Κ Φ s))
 L:∀(Γ:Gm) (X:Cx) (r:Nat) (st:List Stmt),Cok Γ Κ Φ X r->gc (model X.prog X.w) X.A X.env X.xe->chkL Γ s st=Z7->PSs X st (tDS X.K (aV Κ Φ s))
def DV:S->Bool
 |.nil=>Z6
 |.seq _ _=>Z6
 |_=>Z7
variable {Κ:List D}{Φ:List Fn}
theorem Ss.x (h:∀Γ X r st,Cok Γ Κ Φ X r->gc (model X.prog X.w) X.A X.env X.xe->uF Γ s st=Z7->PS X st (tDS X.K (aV Κ Φ s)))(a:DV s=Z7):Ss Κ Φ s:=⟨h,by cases s<;>first|(cases a;done)|exact λ_ _ _ _ _ _ h=>ff rfl h⟩
theorem RP:Ss Κ Φ (.asg t e):=Ss.x (λd X r st k w h=>by
 obtain⟨⟨z,v⟩,f,g⟩:=aK h;obtain⟨p,rfl⟩:=nZ f;obtain⟨x,j,l⟩:=aK g;cases fR j;obtain⟨a,m,n,c⟩:=bL l;cases t with
 |nm i=>obtain⟨y,q,rfl,o⟩:=kN a;exact DU Κ Φ k o (cG m) c
 |tp is=>obtain⟨s,u⟩:=aE n;obtain⟨es,b,_⟩:=aK (aE a).2;obtain⟨_,_,rfl⟩:=Ar b;exact zqt (vZ k a) ((all e).E d X r _ k c) ((show p5 [_] _ _ _=jk _ _ _ _ from rfl).trans (uq (cG s) _ _ _)) (RO (cG u)) rfl) rfl
theorem zvk:Ss Κ Φ (.mut m i args):=Ss.x (λd X r st k F h=>by obtain⟨c,e,f⟩:=aK h;obtain⟨p,rfl⟩:=oA e;obtain⟨⟨x,n,es,b⟩,hm,g⟩:=aK f;obtain⟨G,H,rfl,j⟩:=jS hm;obtain⟨h0,l,a⟩:=aU g;obtain⟨o,s,t,u,v⟩:=dF h0;obtain⟨z,q,rfl,w⟩:=kN o;obtain⟨y,es,rfl⟩:=qF l;cases uc s;have hm:=cr.mp t;simp at hm;obtain⟨B,C,D,E⟩:=k.aS w;subst hm;exact zhk B C D E ((all args).A d X r _ k a) (qI a) (t8 v) (j.symm.trans u)) rfl
theorem RQ:Ss Κ Φ (.drop e):=Ss.x (λa X r st k g h=>by obtain⟨v,b,c⟩:=aK h;obtain⟨p,rfl⟩:=oA b;obtain⟨d,f⟩:=aE c;exact P9 (cG d) ((all e).E a X r _ k f)) rfl
theorem RS:Ss Κ Φ (.ret e):=Ss.x (λb X r st k s h=>by
 obtain⟨o,c,d⟩:=aK h;obtain⟨p,rfl⟩:=yn c;obtain⟨v,rfl,a⟩:=aK d;have g:=(all e).E b X r _ k a;cases e with
 |var i=>obtain⟨x,q,rfl,f⟩:=kN a;obtain⟨j,l,m,n⟩:=k.aS f;exact z5i j l m n
 |_=>exact P8 g) rfl
theorem DW (f:Ss Κ Φ a)(g:Ss Κ Φ b):Ss Κ Φ (.bN c a b):=Ss.x (λd X r st k e h=>by obtain⟨v,i,j⟩:=aK h;obtain⟨p,rfl⟩:=yo i;obtain⟨l,m,n⟩:=aU j;exact Dr ((all c).T d X r _ k l).1 (f.L d X r _ k e m) (g.L d X r _ k e n)) rfl
theorem RT (d:Ss Κ Φ b):Ss Κ Φ (.bH t it b):=Ss.x (λe X r st k c h=>by obtain⟨a,h⟩:=aE h;obtain⟨⟨t,i,B,o⟩,f,g⟩:=aK h;obtain⟨p,rfl⟩:=qK f;obtain⟨j,l,m,n⟩:=bL g;cases fL n;obtain⟨hf,hn⟩:=RN Κ Φ k l;exact zv4 c (k.calm a) hf (vZ k j) (d.L e X r _ k c m) (wa hn _)) rfl
theorem uN (e:Ss Κ Φ b):Ss Κ Φ (.wh n c b):=Ss.x (λa X r st k d h=>by obtain⟨⟨t,B,o⟩,f,g⟩:=aK h;obtain⟨p,rfl⟩:=yp f;obtain⟨i,j,l⟩:=aU g;cases fL l;exact Qj d ((all c).T a X r _ k i).1 (e.L a X r _ k d j)) rfl
theorem Cok.jP {C:Addr}(k:Cok b Κ Φ X r)(nd:(b.N.set i "").Nodup)(hc:d.cls=.ref C)(hm:X.mg c=Z9 (.ref C)):Cok {b with N:=b.N.set i "",cm:=Z6,xc:=Z9 (n,c),fns:=[]} Κ Φ (Mi.jP X i n a d) r where
 hN:=by show X.N.set i ""=b.N.set i "";rw[k.hN]
 hs:=k.hs
 nd:=nd
 fn:=k.fn
 kind:=k.kind
 free:=k.free
 fns:=λj f n e=>by simp at e
 cst:=k.cst
 qH:=λj f n e=>by simp at e
 room:=λz=>by cases z
 calm:=λz=>by cases z
 hu:=k.hu
 nY:=k.nY
 As:=λz=>by cases z
 xc:=λg h z=>by cases z;exact⟨a,d,C,rfl,λ_ _ _ _ I=>(I.pin (a,d) (ey _ bg)).1,hc,hm⟩
 xk:=⟨k.xk.sub,k.xk.rs,k.xk.hV⟩
theorem DX (e:CZ h=Z9 v):∃a b,h=.ExceptHandler (Z9 (.Name v.1 a)) (Z9 v.2.1) v.2.2 b:=by
 unfold CZ at e;split at e
 .obtain⟨x,c,rfl⟩:=bp.mp e;obtain⟨p,rfl⟩:=uI c;exact⟨_,_,rfl⟩
 .cases e
theorem yq (e:yb s=Z9 v):∃a b pos,s=.Raise (Z9 (.Call (.Name v.1 a) v.2 [] b)) Z8 pos:=by
 unfold yb at e;split at e
 .obtain⟨q,p,rfl⟩:=jR e;exact⟨_,_,_,rfl⟩
 .cases e
theorem RU (s:S):Ss Κ Φ s:=by
 induction s with
 |nil=>exact⟨λ_ _ _ _ _ _ h=>ff rfl h,λd X r st k f h=>by cases fL h;exact P5⟩
 |seq a b i c=>
  refine⟨λ_ _ _ _ _ _ h=>ff rfl h,λd X r st k f h=>?_⟩;cases st with
  |nil=>cases h
  |cons s st=>exact P6 (i.R d X r _ k f (aE h).1) (c.L d X r _ k f (aE h).2)
 |bad=>
  refine Ss.x (λd X r st k f h=>?_) rfl
  rintro g s l H D I ⟨m,F,j,so,e,_⟩
  cases e
 |asg=>exact RP
 |jI=>
  refine Ss.x (λd X r st k f h=>?_) rfl
  rintro g s l H D I ⟨m,F,j,so,e,_⟩
  cases e
 | «mut»=>exact zvk
 |drop=>exact RQ
 |ret=>exact RS
 |bN _ _ _ i c=>exact DW i c
 |bH _ _ _ c=>exact RT c
 |wh _ _ _ c=>exact uN c
theorem sL (Κ:List D)(Φ:List Fn)(s:S):∀a X r st,Cok a Κ Φ X r->gc (model X.prog X.w) X.A X.env X.xe->chkL a s st=Z7->PSs X st (tDS X.K (aV Κ Φ s)):=(RU s).L
end
section
variable (Κ:List D)(Φ:List Fn)
variable {Κ Φ}
theorem RV (h:CY e=Z7):∃z k p,e=.Constant (.str z) k p:=by obtain⟨c,hc,h⟩:=aK h;obtain⟨k,p,rfl⟩:=uJ hc;cases c<;>first|(cases h;done)|exact⟨_,_,_,rfl⟩
end
section
variable {P:cu}{w:World}{K:Z5}{mg:Str->Option Value}{base:Heap}
structure Dok (Γ:Gm)(Κ:List D)(Φ:List Fn)(P:cu)(w:World)(K:Z5)(mg:Str->Option Value)(base:Heap)(k:Nat):Prop where
 free:∀x,Γ.free.contains x=Z7->mg x=Z8
 fns:∀(j:Nat) f n,Γ.fns[j]?=Z9 (f,n)->∃m k' ps,Φ[j]?=Z9 m/\k'<=k/\Cal P w K mg base k' f ps (spD K n m)
 cst:∀(j:Nat) x,Γ.cst[j]?=Z9 x->∃d a,Κ[j]?=Z9 d/\mg x=Z9 (.ref a)/\∀H B,B Z8->Rep K H B (.ref a) d
 qH:∀(j:Nat) f n,Γ.fns[j]?=Z9 (f,n)->∃m k' ps,Φ[j]?=Z9 m/\k'<=k/\nW P w K mg base k' f ps n m
 xk:sT Γ K mg
theorem RW (r:Reps K H A f b):StOk K ⟨H,λa=>H a=Z8\/A (Z9 a),λ_=>Z8,A Z8⟩ H (f.map Z9++ay (n-f.length) Z8) (b.map (λd=>Z9 (.od,d))++ay (n-b.length) Z8) where
 ext:=Same.refl H
 aS:=λa e=>.inl e
 own:=λa i e=>by cases e
 len:=by have:=r.length;simp;omega
 sl:=λi g d e=>by
  rw[lh]at e;split at e
  .rename_i j;rw[ao]at e;cases c:b[i]? with
   |none=>rw[c]at e;cases e
   |some m=>
    rw[c]at e;cases e;obtain⟨v,k,l⟩:=Reps.get r c;refine⟨v,?_,?_⟩
    .rw[lh,tw (by rw[ae,r.length];rw[ae]at j;exact j),ao,k];rfl
    .refine(Rep.there _ l).weak λa h=>?_;cases a with
     |none=>exact h.1
     |some a=>exact⟨λz=>h.2 z,.inr h.1⟩
  .rw[cz]at e;split at e<;>cases e
theorem d_fn {st:Stmt}(y:Fun K x x st f fd)(i:FnScope Γ.N ps (z0a st))(hs:Γ.sc=z0a st)(M:Γ.blk=Z6)(j:Γ.xc=Z8)(c:Dok Γ Κ Φ P w K mg base k)(hc:chkL Γ s (z0e st)=Z7):
  FnOk P w K mg base nD (k+1) f fd ps (spD K ps.length (aQ Κ Φ Γ.N.length s)):=by
 refine y.ok i (λC H Q E h=>h.choose_spec.choose_spec.choose_spec.1) λl A outer D H C Q E hr m=>?_;obtain⟨B,u,r,O,rs,e,q⟩:=m;refine⟨_,sL Κ Φ s Γ (iF nD P w K mg base Γ.N x (z0a st) f l A outer D H E).xg k _ ⟨rfl,hs.symm,i.nd,λ_ _=>rfl,by rw[hs];exact i.kind,c.free,c.fns,c.cst,c.qH,λ_=>hr,λ_=>rfl,hr.units,λ_=>⟨rfl,rfl⟩,λ_=>rfl,λ_ _ z=>(by rw[j]at z;cases z),c.xk⟩ PassesOwn.never hc,?_⟩;unfold aQ at e;have so:=RW (n:=Γ.N.length) rs;generalize b:aV Κ Φ s (u.map (λd=>Z9 (.od,d))++ay (Γ.N.length-u.length) Z8)=p at e
 match p,b,e with
 |.ok (.nx F),b,e=>cases e;refine⟨_,_,_,so,b,λG t R I S fr=>q .aO t (λa o e=>(fr a o e rfl).1) rfl⟩
 |.ok (.rt g d),b,e=>
  cases e;refine⟨_,_,_,so,b,λv t J L=>q v t J (L.weak λa h=>?_)⟩;cases g with
  |fr=>cases a<;>exact h
  |nu=>cases a<;>exact h
  |od=>cases a with
   |none=>exact .inr h
   |some a=>exact h.elim .inl λz=>.inr z
  |al=>cases a with
   |none=>exact .inr h
   |some a=>exact h.elim .inl λz=>.inr z
 |.exc _,b,e=>cases e
 |.no,b,e=>cases e
theorem zvx {st:Stmt}(g:Fun K x x st f fd)(i:FnScope a.N ps (z0a st))(hs:a.sc=z0a st)(r:a.blk=Z6)(j:a.xc=Z8)(t:Dok a Κ Φ P w K mg base k)(hc:chkL a s (z0e st)=Z7):
  FnOk P w K mg base (CXE P w base) (k+1) f fd ps (Jb K mg ps.length (aQ Κ Φ a.N.length s)):=by
 obtain⟨oc,od,kV,l,u,an,m,ct,n,rfl,o,b⟩:=g.ex;refine zkz o b i (λp H Q E h=>h.choose_spec.choose_spec.choose_spec.1) λA outer v H p Q E hr d=>?_;obtain⟨B,y,c,z,rs,e,q⟩:=d;unfold aQ at e;split at e<;>cases e
theorem RX {ns:List Int}(h:SqL K H a (ns.map V.int)):Reps K H (λ_=>True) [.ref a] [.list (ns.map .int)]:=by
 refine⟨_,_,rfl,⟨a,ns.map V.int,rfl,?_,?_⟩,rfl⟩
 .rcases h with(h|h)|h
  .exact .inl ⟨h,trivial⟩
  .exact .inr ⟨.inl h,trivial⟩
  .exact .inr ⟨.inr h,trivial⟩
 .clear h
  induction ns with
  |nil=>rfl
  |cons n ns b=>exact⟨_,_,rfl,rfl,b⟩
end
abbrev hld (o:Obj):HO:=.fV o (.own 0)
def Hs (mg:Str->Option Value)(c:Str)(j:Nat)(σ:L2.St)(H:Hp):Prop:=∃a oe C,σ[j]?=Z9 (Z9 (.ref a))/\H a=Z9 (hld oe)/\oe.cls=.ref C/\mg c=Z9 (.ref C)
structure Gd where
 kf:Nat
 args:C
 c:Str
 i:Nat
 j:Nat
 g:Str
 r:Bool
structure XR where
 c:Str
 cs:List (Str×Bool)
 B:Str
def XR.subs (r:XR):List (Str×Str×Bool):=(r.c,"ValueError",Z7)::r.cs.map λy=>(r.c,y.1,y.2)
def Ax (K:Z5)(A:Addr):List (Str×Bool)->Prop
 | []=>True
 |y::l=>(∃D dd cd sl,ZY K bt y.1=Z9 (Z9 (.ref D))/\K.lookup D=Z9 ⟨.type "type",dd,.cls cd,sl⟩/\ZX K (.ref A) (.ref D)=Z9 y.2)/\Ax K A l
structure Kx (K:Z5)(r:XR)(A D:Addr):Prop where
 a:ZY K bt r.c=Z9 (Z9 (.ref A))
 l:∃dd cd sl,K.lookup A=Z9 ⟨.type "type",dd,.cls cd,sl⟩
 e:exV K A=Z7
 cl:Z4 K (.ref A) "__class__"=Z9 (Z9 (.builtin "object.__class__"))
 ga:Z4 K (.ref A) "__getattribute__"=Z9 (Z9 (.builtin "BaseException.__getattribute__"))
 gt:Z4 K (.ref A) "__getattr__"=Z9 Z8
 ob:ZX K (.ref A) (.type "object")=Z9 Z7
 be:ZX K (.ref A) (.type "BaseException")=Z9 Z7
 v:ZX K (.ref A) (.type "ValueError")=Z9 Z7
 b:ZY K bt r.B=Z9 (Z9 (.ref D))
 f:exV K D=Z7
 s:ZX K (.ref A) (.ref D)=Z9 Z7
 cs:Ax K A r.cs
def kxs (K:Z5):List XR->Prop
 | []=>True
 |r::l=>(∃A D,Kx K r A D)/\kxs K l
theorem Ay {K:Z5}:∀{l:List XR} {r:XR},kxs K l->r∈l->∃A D,Kx K r A D
 | [],_,_,z=>nomatch z
 |_::_,_,h,.head _=>h.1
 |_::_,_,h,.tail _ z=>Ay h.2 z
theorem Jo {K:Z5}:∀{l:List (Str×Bool)} {y:Str×Bool},Ax K A l->y∈l->∃D a cd sl,ZY K bt y.1=Z9 (Z9 (.ref D))/\K.lookup D=Z9 ⟨.type "type",a,.cls cd,sl⟩/\ZX K (.ref A) (.ref D)=Z9 y.2
 | [],_,_,z=>nomatch z
 |_::_,_,h,.head _=>h.1
 |_::_,_,h,.tail _ z=>Jo h.2 z
theorem Az {K:Z5}{D:Addr}(l:K.lookup D=Z9 ⟨.type "type",a,.cls cd,sl⟩):W.typeIn K (.ref D)=Z9 (.type "type")/\(W.clsIn K D).isSome=true:=by
 constructor
 .show(K.lookup D).map (·.cls)=_;rw[l];rfl
 .unfold W.clsIn;rw[l];rfl
theorem RY {K:Z5}(X:K.In h)(G:h.Ns bt mg)(g:kxs K d)(o:d≠[]->mg "ValueError"=Z8)(p:i.sub=(d.map XR.subs).flatten)(t:i.rs=d.map (·.c))(u:i.hV=d.map λr=>(r.c,r.B)):sT i K mg:=by
 refine⟨λc C b z=>?_,λc z=>?_,λc B z=>?_⟩
 .rw[p]at z;obtain⟨l,x,z⟩:=List.mem_flatten.mp (cr.mp z);obtain⟨r,hr,rfl⟩:=bz.mp x;obtain⟨A,D,k⟩:=Ay g hr;obtain⟨M,cd,sl,j⟩:=k.l;have xa:XA K A:=⟨k.cl,k.ga,k.gt,k.ob,k.be,(Az j).1,(Az j).2,(Ap k.e).1⟩;rcases bq.mp z with e|z
  .cases e;exact⟨A,.ty "ValueError",.type "ValueError",W.mg_of X G k.a,xa,XV.val,k.v,rfl,λw q=>q,.inr ⟨o (λq=>by rw[q]at hr;cases hr),by decide+kernel,by decide⟩⟩
  .obtain⟨y,E,e⟩:=bz.mp z;cases e;obtain⟨m,F,H,I,J,n,L⟩:=Jo k.cs E;exact⟨A,.ref m,.ref m,W.mg_of X G k.a,xa,XV.own (Az n).1 (Az n).2,L,rfl,λw q=>q,.inl (W.mg_of X G J)⟩
 .rw[t]at z;obtain⟨r,hr,rfl⟩:=bz.mp (cr.mp z);obtain⟨A,D,k⟩:=Ay g hr;exact⟨A,W.mg_of X G k.a,k.e⟩
 .rw[u]at z;obtain⟨r,hr,e⟩:=bz.mp (cr.mp z);cases e;obtain⟨A,D,k⟩:=Ay g hr;exact⟨A,D,W.mg_of X G k.a,W.mg_of X G k.b,(Ap k.e).1,(Ap k.f).1,k.s⟩
inductive Kd where
 |n
 |e (c:Str) (r:Bool)
 |g (d:Gd) (je:Nat)
structure DRow where
 nm:Str
 st:Stmt
 N:List Str
 ps:List Str
 free:List Str
 fns:List Nat
 s:S
 F:Fn
 kd:Kd
 kc:List (Str×List Str):=[]
def cD (y:Str×List Str):D:=.tuple (y.2.map .str)
def sig (Rs:List DRow)(j:Nat):Str×Nat:=match Rs[j]? with
 |some c=>(c.nm,c.ps.length)
 |none=>("",0)
def fnAt (Rs:List DRow)(j:Nat):Fn:=match Rs[j]? with
 |some c=>c.F
 |none=>λ_=>.no
def DRow.G (Rs:List DRow)(xt:List XR)(r:DRow):Gm:={N:=r.N,sc:=z0a r.st,free:=r.free,fns:=r.fns.map (sig Rs),cst:=r.kc.map (·.1),sub:=(xt.map XR.subs).flatten,rs:=xt.map (·.c),hV:=xt.map λr=>(r.c,r.B)}
def Kd.uw:Kd->Bool
 |.e _ _=>Z7
 |_=>Z6
def nE (Rs:List DRow)(j:Nat):Bool:=match Rs[j]? with
 |some c=>!c.kd.uw
 |none=>Z7
def DRow.part (Rs:List DRow)(xt:List XR)(i:Nat)(r:DRow):Bool:=match r.kd with
 |.n=>chkL (r.G Rs xt) r.s (z0e r.st)
 |.e _ _=>Z6
 |.g _ _=>Z6
def DRow.ok (Rs:List DRow)(xt:List XR)(fr:List Str)(i:Nat)(r:DRow):Bool:=
 (decide ((z0a r.st).kind=.function)&& !(z0a r.st).isCoroutine&& !(z0a r.st).isGenerator&&decide r.N.Nodup&&decide (r.N.take r.ps.length=r.ps))&&
 (r.ps.all (λx=>(z0a r.st).names.lookup x==Z9 .local||(z0a r.st).names.lookup x==Z9 .cell)&&(z0a r.st).names.all (λy=>!(y.2==.free))&&r.free.all (λx=>fr.contains x)&&r.fns.all (λj=>decide (j<i)&&nE Rs j)&&r.part Rs xt i)
def wb (Rs:List DRow)(xt:List XR)(fr:List Str):Nat->List DRow->Bool
 |_,[]=>Z7
 |i,r::l=>r.ok Rs xt fr i&&wb Rs xt fr (i+1) l
def DRow.DY (Rs:List DRow)(r:DRow):Prop:=match r.kd with
 |.n=>r.F=aQ (r.kc.map cD) (r.fns.map (fnAt Rs)) r.N.length r.s
 |.e _ _=>True
 |.g _ _=>True
def qL (Rs:List DRow):List DRow->Prop
 | []=>True
 |r::l=>r.DY Rs/\qL Rs l
theorem DZ:∀{l:List DRow} {k i:Nat} {r:DRow},wb a b fr k l=Z7->l[i]?=Z9 r->r.ok a b fr (k+i)=Z7
 | [],_,i,_,_,e=>by simp at e
 |r::l,k,0,_,h,e=>by cases e;exact(aE h).1
 |r::l,k,i+1,_,h,e=>by
  have:=DZ (aE h).2 e
  rwa [show k+(i+1)=k+1+i by omega]
theorem Jp:∀{l:List DRow} {i:Nat} {r:DRow},qL a l->l[i]?=Z9 r->r.DY a
 | [],i,_,_,e=>by simp at e
 |r::l,0,_,h,e=>by cases e;exact h.1
 |r::l,i+1,_,h,e=>Jp h.2 e
section
variable {P:cu}{w:World}{K:Z5}{mg:Str->Option Value}{base:Heap}{Rs:List DRow}{xt:List XR}{fr:List Str}
theorem yr {r:DRow}(h:r.ok Rs xt fr i=Z7):FnScope (r.G Rs xt).N r.ps (z0a r.st)/\(∀x,r.free.contains x=Z7->fr.contains x=Z7)/\(∀j∈r.fns,j<i/\nE Rs j=Z7)/\r.part Rs xt i=true:=by
 obtain⟨d,e⟩:=aE h;obtain⟨a1,a2,a3,a4,f⟩:=dF d;obtain⟨g,k,l,b,m⟩:=dF e;refine⟨⟨t8 a1,cG a2,cG a3,t8 a4,t8 f,λx a=>?_,λy n z=>?_⟩,λx a=>?_,λj c=>⟨t8 (aE (cc.mp b j c)).1,(aE (cc.mp b j c)).2⟩,m⟩
 .rcases fi.mp (cc.mp g x a)with q|q
  .exact .inl (uc q)
  .exact .inr (uc q)
 .have :=cG (cc.mp k y n);rw[z]at this;cases this
 .exact cc.mp l x (cr.mp a)
def lP (P:cu)(w:World)(K:Z5)(mg:Str->Option Value)(base:Heap)(i:Nat)(r:DRow):Prop:=match r.kd with
 |.e _ _=>True
 |_=>Cal P w K mg base (i+1) r.nm r.ps (spD K r.ps.length r.F)/\nW P w K mg base (i+1) r.nm r.ps r.ps.length r.F
theorem yt (h:lP P w K mg base j c)(e:Rs[j]?=Z9 c)(n:nE Rs j=Z7):Cal P w K mg base (j+1) c.nm c.ps (spD K c.ps.length c.F)/\nW P w K mg base (j+1) c.nm c.ps c.ps.length c.F:=by
 unfold nE at n;rw[e]at n;have n:(!c.kd.uw)=true:=n;unfold lP at h;cases a:c.kd with
 |n=>rw[a]at h;exact h
 |g d f=>rw[a]at h;exact h
 |e x b=>rw[a]at n;cases n
def D1 (K:Z5)(mg:Str->Option Value)(y:Str×List Str):Prop:=∃a,mg y.1=Z9 (.ref a)/\∀H B,B Z8->Rep K H B (.ref a) (cD y)
theorem RZ (hr:Rs[i]?=Z9 r)(h:r.ok Rs xt fr i=Z7)(T:∀x∈fr,mg x=Z8)(xk:∀Γ,Γ.sub=(xt.map XR.subs).flatten->Γ.rs=xt.map (·.c)->(Γ.hV=xt.map λr=>(r.c,r.B))->sT Γ K mg)(p:∀y∈r.kc,D1 K mg y)(m:∀j c,j<i->Rs[j]?=Z9 c->lP P w K mg base j c):Dok (r.G Rs xt) (r.kc.map cD) (r.fns.map (fnAt Rs)) P w K mg base i where
 free:=λx q=>T x (cr.mp ((yr h).2.1 x q))
 fns:=λj f n e=>by
  have e:(r.fns.map (sig Rs))[j]?=Z9 (f,n):=e;rw[ao]at e;obtain⟨b,k,e⟩:=bp.mp e;obtain⟨d,g⟩:=(yr h).2.2.1 b (aq k);have l:=(ax.mp hr).1;have hc:=ac (lv d l);unfold sig at e;rw[hc]at e;cases e;refine⟨fnAt Rs b,b+1,Rs[b].ps,by rw[ao,k];rfl,d,?_⟩;have:fnAt Rs b=Rs[b].F:=by unfold fnAt;rw[hc]
  rw[this];exact(yt (m b _ d hc) hc g).1
 cst:=λj x e=>by have e:(r.kc.map (·.1))[j]?=Z9 x:=e;rw[ao]at e;obtain⟨y,o,rfl⟩:=bp.mp e;obtain⟨a,s,t⟩:=p y (aq o);exact⟨cD y,a,by rw[ao,o];rfl,s,t⟩
 qH:=λj f n e=>by
  have e:(r.fns.map (sig Rs))[j]?=Z9 (f,n):=e;rw[ao]at e;obtain⟨b,k,e⟩:=bp.mp e;obtain⟨d,g⟩:=(yr h).2.2.1 b (aq k);have l:=(ax.mp hr).1;have hc:=ac (lv d l);unfold sig at e;rw[hc]at e;cases e;refine⟨fnAt Rs b,b+1,Rs[b].ps,by rw[ao,k];rfl,d,?_⟩;have:fnAt Rs b=Rs[b].F:=by unfold fnAt;rw[hc]
  rw[this];exact(yt (m b _ d hc) hc g).2
 xk:=xk _ rfl rfl rfl
theorem R0 (hok:wb Rs xt fr 0 Rs=Z7)(s:qL Rs Rs)(T:∀x∈fr,mg x=Z8)(xk:∀Γ,Γ.sub=(xt.map XR.subs).flatten->Γ.rs=xt.map (·.c)->(Γ.hV=xt.map λr=>(r.c,r.B))->sT Γ K mg)(n:Nat)(t:∀r∈Rs,∀y∈r.kc,D1 K mg y)(O:∀i r,i<n->Rs[i]?=Z9 r->Own K mg r.nm r.st r.ps):∀i r,i<n->Rs[i]?=Z9 r->lP P w K mg base i r:=by
 intro i
 induction i using Nat.strongRecOn with
 |ind i u=>
  intro r k hr
  have l:r.ok Rs xt fr i=true:=by
   have:=DZ hok hr
   rwa [Nat.zero_add]at this
  have D:=RZ hr l T xk (t r (aq hr)) (λj c o hc=>u j o c (lv o k) hc);obtain⟨p,v,_,a⟩:=yr l;have hf:=Jp s hr;obtain⟨f,fd,q,m,kp,b⟩:=O i r k hr;unfold DRow.DY at hf;unfold DRow.part at a;unfold lP;cases h:r.kd with
  |n=>rw[h]at hf a;rw[hf];exact⟨⟨f,fd,d_fn (Γ:=r.G Rs xt) q p rfl rfl rfl D a,m,kp,b⟩,f,fd,zvx q p rfl rfl rfl D a,m,kp,b⟩
  |e c z=>rw[h]at a;cases a
  |g d A=>rw[h]at a;cases a
end
def Kf (K:Z5)(r:DRow)(f:Addr)(fd:d5):Prop:=ZY K bt r.nm=Z9 (Z9 (.ref f))/\∃(oc:Value) (od an:Option Addr) (sl:Array (Option Value)) (kV dc pm cd ct:Value),fd=Z0 r.nm r.nm (z0m r.st) (z0e r.st) (z0a r.st) .none kV dc pm an cd ct/\K.lookup f=Z9 ⟨oc,od,.func fd,sl⟩/\ZZ K cd r.nm=Z7/\Z2 K (.ref f)=Z7
def D3 (r:DRow):Prop:=∀(kV doc pm:Value) (an:Option Addr) (cdv ct:Value) (us:List Value),us.length=r.ps.length->jg (Z0 r.nm r.nm (z0m r.st) (z0e r.st) (z0a r.st) .none kV doc pm an cdv ct) ⟨us,[]⟩=pure (r.ps.zip us)
theorem jT (h:b.length=n+1):∃a l,b=a::l/\l.length=n:=by
 cases b with
 |nil=>cases h
 |cons a l=>exact⟨a,l,rfl,Nat.succ.inj h⟩
theorem uO {P:List Value->Prop}(h:∀a,P [a])(b:List Value)(z:b.length=1):P b:=by obtain⟨a,l,rfl,y⟩:=jT z;cases List.eq_nil_of_length_eq_zero y;exact h a
theorem dH {P:List Value->Prop}(h:∀a b,P [a,b])(c:List Value)(z:c.length=2):P c:=by obtain⟨a,l,rfl,y⟩:=jT z;exact uO (P:=λl=>P (a::l)) (h a) l y
theorem pD {P:List Value->Prop}(h:∀a b c,P [a,b,c])(d:List Value)(z:d.length=3):P d:=by obtain⟨a,l,rfl,y⟩:=jT z;exact dH (P:=λl=>P (a::l)) (h a) l y
theorem by4 {P:List Value->Prop}(h:∀a b c d,P [a,b,c,d])(e:List Value)(z:e.length=4):P e:=by obtain⟨a,l,rfl,y⟩:=jT z;exact pD (P:=λl=>P (a::l)) (h a) l y
theorem AA {P:List Value->Prop}(h:∀a b c d e,P [a,b,c,d,e])(f:List Value)(z:f.length=5):P f:=by obtain⟨a,l,rfl,y⟩:=jT z;exact by4 (P:=λl=>P (a::l)) (h a) l y
theorem Jq {P:List Value->Prop}(h:∀a b c d e f,P [a,b,c,d,e,f])(g:List Value)(z:g.length=6):P g:=by obtain⟨a,l,rfl,y⟩:=jT z;exact AA (P:=λl=>P (a::l)) (h a) l y
def kOks (K:Z5):List DRow->Prop
 | []=>True
 |r::l=>((∃f fd,Kf K r f fd)/\D3 r)/\kOks K l
theorem Jr {K:Z5}:∀{l:List DRow} {i:Nat} {r:DRow},kOks K l->l[i]?=Z9 r->(∃f fd,Kf K r f fd)/\D3 r
 | [],i,_,_,e=>by simp at e
 |r::l,0,_,h,e=>by cases e;exact h.1
 |r::l,i+1,_,h,e=>Jr h.2 e
def strOf:Value->Option Str
 |.str x _=>if ZW x then Z9 x else Z8
 |_=>Z8
def Js (K:Z5)(y:Str×List Str):Bool:=match ZY K bt y.1 with
 |some (Z9 (.ref a))=>(match K.lookup a with
  |some ⟨.type "tuple",Z8,.seq fC _,_⟩=>decide (fC.toList.map strOf=y.2.map Z9)&&decide (y.2.length<=1000)
  |_=>Z6)
 |_=>Z6
def sU (K:Z5)(r:DRow):Option (d5×Bool):=match ZY K bt r.nm with
 |some (Z9 (.ref f))=>(match K.lookup f with
  |some ⟨_,_,.func fd,_⟩=>Z9 (fd,ZZ K fd.code r.nm&&Z2 K (.ref f))
  |_=>Z8)
 |_=>Z8
def Jt (r:DRow)(x:d5×Bool):d5×Bool:=(Z0 r.nm r.nm (z0m r.st) (z0e r.st) (z0a r.st) .none x.1.kwdefaults x.1.doc x.1.pyModule x.1.annotations x.1.code x.1.closureTuple,Z7)
def yu (K:Z5)(A:Addr):Bool:=match K.lookup A with
 |some ⟨.type "type",_,.cls _,_⟩=>Z7
 |_=>Z6
def R1:List Value:=[.type "ValueError",.type "Exception",.type "BaseException",.type "object"]
def D4 (K:Z5)(r:XR):Option (Bool×Bool×Option (Option Value)×Option (Option Value)×Option (Option Value)×Option Bool×Option Bool×Option Bool×Bool×Option Bool×List (Bool×Option Bool)):=match ZY K bt r.c,ZY K bt r.B with
 |some (Z9 (.ref A)),Z9 (Z9 (.ref D))=>Z9 (yu K A,exV K A,Z4 K (.ref A) "__class__",Z4 K (.ref A) "__getattribute__",Z4 K (.ref A) "__getattr__",ZX K (.ref A) (.type "object"),ZX K (.ref A) (.type "BaseException"),ZX K (.ref A) (.type "ValueError"),exV K D,ZX K (.ref A) (.ref D),r.cs.map λy=>match ZY K bt y.1 with
  |some (Z9 (.ref E))=>(yu K E,ZX K (.ref A) (.ref E))
  |_=>(Z6,Z8))
 |_,_=>Z8
def D5 (r:XR):Option (Bool×Bool×Option (Option Value)×Option (Option Value)×Option (Option Value)×Option Bool×Option Bool×Option Bool×Bool×Option Bool×List (Bool×Option Bool)):=Z9 (Z7,Z7,Z9 (Z9 (.builtin "object.__class__")),Z9 (Z9 (.builtin "BaseException.__getattribute__")),Z9 Z8,Z9 Z7,Z9 Z7,Z9 Z7,Z7,Z9 Z7,r.cs.map λy=>(Z7,Z9 y.2))
theorem Ju {K:Z5}(h:yu K A=Z7):∃a cd sl,K.lookup A=Z9 ⟨.type "type",a,.cls cd,sl⟩:=by
 unfold yu at h;split at h
 .rename_i a cd sl e;simp_all
 .cases h
theorem zca {K:Z5}:∀{l:List (Str×Bool)},(l.map fun y=>match ZY K bt y.1 with
  |some (Z9 (.ref E))=>(yu K E,ZX K (.ref A) (.ref E))
  |_=>(Z6,Z8))=(l.map λy=>(Z7,Z9 y.2))->Ax K A l
 | [],_=>trivial
 |y::l,h=>by
  have h:=List.cons.inj h;refine⟨?_,zca h.2⟩;have e:=h.1
  dsimp only at e
  split at e
  .rename_i E a;have e:=t0 e;obtain⟨b,cd,sl,q⟩:=Ju e.1;exact⟨E,b,cd,sl,a,q,e.2⟩
  .cases(t0 e).1
theorem R3 {K:Z5}(h:D4 K r=D5 r):∃A D,Kx K r A D:=by
 unfold D4 D5 at h;split at h
 .rename_i A D k l;have h:=t0 (tz h);have b:=t0 h.2;have c:=t0 b.2;have d:=t0 c.2;have e:=t0 d.2;have f:=t0 e.2;have g:=t0 f.2;have i:=t0 g.2;have j:=t0 i.2;have a:=t0 j.2;exact⟨A,D,k,Ju h.1,b.1,c.1,d.1,e.1,f.1,g.1,i.1,l,j.1,a.1,zca a.2⟩
 .cases h
theorem Jv {K:Z5}:∀{l:List XR},(∀r∈l,∃A D,Kx K r A D)->kxs K l
 | [],_=>trivial
 |r::_,h=>⟨h r (.head _),Jv λr hr=>h r (.tail _ hr)⟩
def KEq (K:eu->Z5)(Rs:List DRow)(fr:List Str)(xt:List XR):Prop:=∀P,(Rs.map λr=>(sU (K P) r).isSome,Rs.map λr=>sU (K P) r,fr.map λn=>ZY (K P) bt n,xt.map λr=>D4 (K P) r,Rs.map λr=>r.kc.map λy=>Js (K P) y)=(Rs.map λ_=>Z7,Rs.map λr=>(sU (K P) r).map (Jt r),fr.map λ_=>Z9 Z8,xt.map D5,Rs.map λr=>r.kc.map λ_=>Z7)
theorem KEq_r:KEq=KEq:=rfl
theorem R4 {K:Z5}(h:(sU K r).isSome=Z7)(e:sU K r=(sU K r).map (Jt r)):∃f fd,Kf K r f fd:=by
 cases z:sU K r with
 |none=>rw[z]at h;cases h
 |some x=>
  rw[z]at e;have e:=tz e;unfold sU at z;split at z
  .rename_i f hf;split at z
   .rename_i oc od fd sl c;have z:=tz z;have d:=congrArg nc z;have a:=congrArg tq z;rw[congrArg tq e]at a;have b:=au.mp a;subst d;exact⟨f,x.1,hf,oc,od,x.1.annotations,sl,x.1.kwdefaults,x.1.doc,x.1.pyModule,x.1.code,x.1.closureTuple,congrArg nc e,c,b.1,b.2⟩
   .cases z
  .cases z
theorem AD {K:eu->Z5}(h:KEq K e fr g)(P:eu):(∀r∈e,∃f fd,Kf (K P) r f fd)/\(∀n∈fr,ZY (K P) bt n=Z9 Z8)/\kxs (K P) g/\∀r∈e,∀y∈r.kc,Js (K P) y=true:=by have a:=t0 (h P);have b:=t0 a.2;have c:=t0 b.2;have d:=t0 c.2;exact⟨λr hr=>R4 (dh.mp a.1 r hr) (dh.mp b.1 r hr),λn hn=>dh.mp c.1 n hn,Jv λr hr=>R3 (dh.mp d.1 r hr),λr hr=>dh.mp (dh.mp d.2 r hr)⟩
def uP:List DRow->Prop
 | []=>True
 |r::l=>D3 r/\uP l
theorem Jw {K:Z5}:∀{l:List DRow},(∀r∈l,∃f fd,Kf K r f fd)->uP l->kOks K l
 | [],_,_=>trivial
 |r::_,h,b=>⟨⟨h r (.head _),b.1⟩,Jw (λr hr=>h r (.tail _ hr)) b.2⟩
end Mi
name_quick tkeq for Mi.KEq by Mi.KEq_r
namespace Mk
open Mi
section
open PySem
abbrev P:=List (Str×Int)
def pr (p:Str×Int):D:=.tuple [.str p.1,.int p.2]
def pk (l:P):D:=.tuple (l.map pr)
def ep (p:Str×Int):D×D:=(.str p.1,.int p.2)
def en (l:P):bA:=l.map ep
def i':P->Str->Option Int
 | [],_=>Z8
 |p::l,n=>if p.1=n then Z9 p.2 else i' l n
def look (l:P)(n:Str):Int:=(i' l n).getD 0
def ks (l:P):List Str:=l.map (·.1)
def put:P->Str->Int->P
 | [],n,v=>[(n,v)]
 |p::l,n,v=>if p.1=n then(p.1,v)::l else p::put l n v
theorem R5 {b:Str}(h:a.cps.toList=b.cps.toList):a=b:=by cases a;cases b;simp at h;subst h;rfl
theorem Jx:∀{l:P},n∉ks l->i' l n=Z8
 | [],_=>rfl
 |p::l,h=>by simp only[ks,br,bq,not_or]at h;rw[i',tx (λe=>h.1 e.symm)];exact Jx h.2
theorem D6:∀{l:P},i' l n=Z9 v->(n,v)∈l
 | [],h=>by cases h
 |p::l,h=>by
  rw[i']at h;split at h
  .rename_i e;cases h;subst e;simp_all
  .exact bc _ (D6 h)
theorem Jy:∀{l:P} {p:Str×Int},(ks l).Nodup->p∈l->i' l p.1=Z9 p.2
 |q::l,p,nd,h=>by
  rw[ks,br,ef]at nd;rw[i'];rcases(bq.mp h)with rfl|h
  .rw[tw rfl]
  .rw[tx λe:q.1=p.1=>nd.1 (bz.mpr ⟨p,h,e.symm⟩)];exact Jy nd.2 h
theorem R6 (h:n∈ks l):∃v,i' l n=Z9 v:=by
 cases e:i' l n with
 |some v=>exact⟨v,rfl⟩
 |none=>
  exfalso
  induction l with
  |nil=>cases h
  |cons p l ih=>
   rw[i']at e;split at e
   .cases e
   .rename_i hn;rcases bq.mp h with h|h
    .exact hn h.symm
    .exact ih h e
theorem AE (a b:Str):eqK (.str a) (.str b)=decide (a=b):=by simp only[eqK]
theorem D7 (a:Str):iW (.str a)=true:=by simp only[iW]
theorem Jz (n:Str):∀l,z0g (en l) (.str n)=(i' l n).map .int
 | []=>rfl
 |p::l=>by
  have a:=Jz n l;unfold z0g at a ⊢;rw[i'];show Option.map _ (match eqK (.str p.1) (.str n)with|true=>_|false=>_)=_;rw[AE];by_cases h:p.1=n
  .rw[tw h];simp[h,ep]
  .rw[tx h];simp only[h,decide_false];exact a
theorem D8 (n:Str):∀l,((en l).any λe=>eqK e.1 (.str n))=Z7↔n∈ks l
 | []=>by simp[en,ks]
 |p::l=>by show(eqK (.str p.1) (.str n)||_)=Z7↔_;rw[AE,Bool.or_eq_true,ks];have:=D8 n l;rw[en,ks]at this;rw[this];simp[eq_comm]
theorem JA:∀{l:P},(ks l).Nodup->n∈ks l->(en l).map (λe=>if eqK e.1 (.str n)then(e.1,.int v)else e)=en (put l n v)
 |p::l,nd,h=>by
  rw[ks,br,ef]at nd;rw[put];show(if eqK (.str p.1) (.str n)=Z7 then _ else _)::_=_;rw[AE];by_cases e:p.1=n
  .have hn:∀q∈l,¬q.1=n:=λq a z=>nd.1 (bz.mpr ⟨q,a,z.trans e.symm⟩);rw[tw e,tw (by simpa using e)]
   congr 1
   rw[ei];apply ls;intro q a;show(if eqK (.str q.1) (.str n)=Z7 then _ else _)=ep q;rw[AE,tx (by simpa using hn q a)]
  .rw[tx e,tx (by simpa using e)]
   congr 1
   refine JA nd.2 ?_;rcases bq.mp h with h|h
   .exact(e h.symm).elim
   .exact h
theorem D9:∀{l:P},n∉ks l->put l n v=l++[(n,v)]
 | [],_=>rfl
 |p::l,h=>by simp only[ks,br,bq,not_or]at h;rw[put,tx λe=>h.1 e.symm,D9 h.2];rfl
theorem R7 (nd:(ks l).Nodup):dput (en l) (.str n) (.int v)=en (put l n v):=by
 unfold dput;by_cases h:n∈ks l
 .rw[tw ((D8 n l).mpr h)];exact JA nd h
 .rw[tx λz=>h ((D8 n l).mp z),D9 h];simp[en,ep]
theorem JB:∀l a,(ks (a++l)).Nodup->iX (en a) (l.map pr)=Z9 (en (a++l))
 | [],a,_=>by simp[iX]
 |p::l,a,nd=>by
  have b:=nd;rw[ks,cj]at nd;have c:=λz=>by rw[ij]at nd;exact nd.2.2 _ z _ bg rfl
  show(if iW (.str p.1)then iX (dput (en a) (.str p.1) (.int p.2)) (l.map pr)else Z8)=_;rw[tw (D7 _),R7 (by rw[ij]at nd;exact nd.1),D9 c,JB l (a++[(p.1,p.2)]) (by rw[kb];exact b),kb];rfl
theorem R8 (nd:(ks l).Nodup):iX [] (l.map pr)=Z9 (en l):=by have:=JB l [] (by simpa using nd);simpa[en]using this
theorem D' (l:P):cO (en l)=true:=by unfold cO;rw[cc];intro e a;obtain⟨p,_,rfl⟩:=bz.mp a;rfl
theorem wc (p:Str×Int):imm (pr p)=true:=rfl
theorem JC (l:P):imms (l.map pr)=true:=pS.mpr λx hx=>by obtain⟨p,_,rfl⟩:=bz.mp hx;rfl
theorem fM (l:P):imm (pk l)=true:=JC l
theorem R9 (n:Nat)(p:Str×Int):bE (n+1) (pr p)=true:=by cases n<;>rfl
theorem JD (n:Nat)(l:P):bE (n+2) (pk l)=true:=by exact pA.mpr λx a=>by obtain⟨p,_,rfl⟩:=bz.mp a;exact R9 n p
theorem R' (l:P):(l.map pr).all isP2=true:=by rw[cc];intro x a;obtain⟨q,_,rfl⟩:=bz.mp a;rfl
abbrev d0:Str×Int:=(⟨#[]⟩,0)
def sV (l:P):P:=if l.length<2 then l else(runK (λi j=>vQ (pr (l.getD i d0)) (pr (l.getD j d0))) (PySem.W.kas_sort l.length)).toList.map λi=>l.getD i d0
theorem Sa (l:P):ur (l.map pr)=(sV l).map pr:=by
 have e:∀i,(l.map pr).getD i dP=pr (l.getD i d0):=λi=>by rw[aa,aa,ao];cases l[i]?<;>rfl
 unfold ur sV;simp only[e,ae];split
 .rfl
 .rw[ei];rfl
theorem Ea (h:l.length<4):(sV l).Perm l:=by
 unfold sV;split
 .exact .refl _
 .refine((CG (HY (by omega) h)).map _).trans (.of_eq (gg λi=>?_));rw[ao];by_cases a:i<l.length
  .rw[ee a];show Z9 (l.getD i d0)=_;rw[aa,ac a];rfl
  .rw[ej (by grind),ej (by omega)];rfl
def Sd (l:P):Prop:=(ks l).Nodup
theorem Se (nd:(ks l).Nodup)(h:l.length<4):Sd (sV l):=((Ea h).map _).nodup_iff.mpr nd
theorem Sf (h:Sd l):(ks l).Nodup:=h
structure PK (l:P):Prop where
 sd:Sd l
 pos:∀p∈l,0<p.2
theorem PK.nd (h:PK l):(ks l).Nodup:=Sf h.sd
theorem PK.qM (h:PK l)(n:Str):0<=look l n:=by
 unfold look;cases e:i' l n with
 |none=>exact Int.le_refl _
 |some v=>exact Int.le_of_lt (h.pos _ (D6 e))
theorem PK.iL (h:PK l)(a:p∈l):look l p.1=p.2:=by unfold look;rw[Jy h.nd a];rfl
end
section
open PySem
theorem JE:aV Κ Φ (.seq p q) a=pV (aV Κ Φ p a) (aV Κ Φ q):=rfl
theorem Eb:aV Κ Φ (.asg (.nm i) t) a=(aL Κ Φ t a>>=λx=>.ok (.nx (a.set i (Z9 (z1o x))))):=rfl
theorem Ec:aV Κ Φ (.bN c p q) a=(eA Κ Φ c a>>=λk=>if k then aV Κ Φ p a else aV Κ Φ q a):=rfl
theorem JF:aV Κ Φ (.ret (.var i)) a=(match a[i]? with|some (Z9 (g,d))=>.ok (.rt (if imm d then .fr else kL g) d)|_=>.no):=rfl
theorem Sg:aV Κ Φ (.mut m i a) ρ=(eF Κ Φ a ρ>>=λys=>match ρ[i]? with
 |some (Z9 (.fr,.list xs))=>nI m xs ys>>=λxW=>.ok (.nx ((ρ.set i (Z9 (.fr,.list xW))).map pT))
 |_=>.no):=rfl
theorem Sh:aV Κ Φ (.bH d a p) e=(evF Κ Φ a e>>=λw=>dU (λx b=>fD d (gJ x w.1,x) b>>=λc=>aV Κ Φ p c) w.2.1 w.2.2):=rfl
theorem Si:dU f (x::b) c=(match f x c with
 |.ok (.nx a)=>dU f b a
 |.ok (.rt g d)=>.ok (.rt g d)
 |.exc e=>.exc e
 |.no=>.no):=rfl
theorem Sj:eF Κ Φ .nil a=.ok []:=rfl
theorem AF:eF Κ Φ (.cons a b) c=(aL Κ Φ a c>>=λx=>eF Κ Φ b c>>=λd=>.ok (x::d)):=rfl
theorem Ed:uz Κ Φ (.tv a) b=(aL Κ Φ a b>>=λx=>uy x.2):=rfl
theorem yw:CK Κ Φ (.tv a) ρ=(aL Κ Φ a ρ>>=λx=>z55 x.2>>=λp=>.ok (x.1,p)):=rfl
theorem Ee:eA Κ Φ (.tv a) b=(aL Κ Φ a b>>=λx=>kK x.2):=rfl
theorem Sk:eA Κ Φ (.and a b) d=(eA Κ Φ a d>>=λc=>if c then eA Κ Φ b d else .ok Z6):=rfl
theorem Ef:eA Κ Φ (.or a b) d=(eA Κ Φ a d>>=λc=>if c then .ok Z7 else eA Κ Φ b d):=rfl
theorem Sm:eA Κ Φ (.not a) b=(eA Κ Φ a b>>=λc=>.ok (!c)):=rfl
theorem Eg:evW Κ Φ (.tv a) b=(aL Κ Φ a b>>=λx=>z54 x.2>>=λc=>.ok (x.1,c)):=rfl
theorem Sn:evW Κ Φ (.eI a) ρ=(eF Κ Φ a ρ>>=λys=>hP (ys.map (·.2))>>=λxs=>.ok (.fr,xs)):=rfl
theorem JG:evF Κ Φ (.tv (.var i)) a=(if lH a i then z0 i a else if lI Κ Φ (.tv (.var i)) a then aL Κ Φ (.var i) a>>=λx=>nJ x a else sG Κ Φ (.tv (.var i)) a):=rfl
theorem cZ (h:aV Κ Φ a ρ=.ok (.nx c))(k:aV Κ Φ b c=r):aV Κ Φ (.seq a b) ρ=r:=by rw[JE,h];exact k
theorem bO (h:aV Κ Φ a ρ=.ok (.rt g d)):aV Κ Φ (.seq a b) ρ=.ok (.rt g d):=by rw[JE,h];rfl
theorem cU (h:aV Κ Φ s (a.map (λd=>Z9 (.od,d))++ay (n-a.length) Z8)=.ok (.rt g d)):aQ Κ Φ n s a=.ok (g,d):=by unfold aQ;rw[h]
theorem JH {k:Type}{m:k->D}(I:List k->Rho->Prop):∀g pre a,(∀b x c a,pre++g=b++x::c->I b a->∃d,f (m x) a=.ok (.nx d)/\I (b++[x]) d)->I pre a->∃d,dU f (g.map m) a=.ok (.nx d)/\I (pre++g) d
 | [],pre,a,_,h=>⟨a,rfl,by rw[dw];exact h⟩
 |x::g,pre,a,hf,h=>by
  obtain⟨i,e,n⟩:=hf pre x g a rfl h;have l:pre++[x]++g=pre++x::g:=by rw[kb];rfl
  obtain⟨j,o,p⟩:=JH I g (pre++[x]) i (λb y c a q=>hf b y c a (l▸q)) n;exact⟨j,by rw[br,Si,e];exact o,l▸p⟩
theorem JI {β:Type}{m:β->D}(g:β->Option D):∀(xs:List β),(∀x∈xs,f (m x)=.ok ((g x).map λd=>(.fr,d)))->lG f (xs.map m)=.ok ((xs.filterMap g).map λd=>(.fr,d))
 | [],_=>rfl
 |x::xs,h=>by
  rw[br,lG,h x bg,JI g xs λy hy=>h y (bc _ hy)];cases e:g x with
  |none=>rw[mo e];rfl
  |some d=>rw[mu e];rfl
theorem So (a:List D):sE (a.map λd=>(G.fr,d))=.fr:=by unfold sE;rw[tw];rw[q9];exact cc.mpr λ_ _=>rfl
theorem Sq (a:List D):cN (a.map λd=>(G.fr,d))=.fr:=by unfold cN;rw[tw];rw[cc];intro x b;obtain⟨d,_,rfl⟩:=bz.mp b;rfl
theorem Eh (a:List D):(a.map λd=>(G.fr,d)).map (λx=>x.2)=a:=by rw[ei];exact se _
theorem Sr (a b:Int):iZ "max" [.int a,.int b]=.ok (.int (max a b)):=rfl
theorem Su (a b:Int):iZ "min" [.int a,.int b]=.ok (.int (min a b)):=rfl
theorem Sv (l:P)(n:Str)(v:Int):mtD "get" (.dict (en l)) [.str n,.int v]=.ok (.int ((i' l n).getD v)):=by have:mtD "get" (.dict (en l)) [.str n,.int v]=.ok ((z0g (en l) (.str n)).getD (.int v)):=rfl;rw[this,Jz];cases i' l n<;>rfl
theorem Ei (l:P)(n:Str):mtD "get" (.dict (en l)) [.str n,.int 0]=.ok (.int (look l n)):=Sv l n 0
theorem Ej (b:Bool)(nd:(ks l).Nodup):aggD "dict" b (l.map pr)=.ok (.dict (en l)):=by show Res.eG ((iX [] (l.map pr)).map PyData.dict)=_;rw[R8 nd];rfl
def chr (z:Str)(i:Int):Str:=⟨#[z.cps.toList.getD i.toNat 0]⟩
theorem Sw (a b:Str):(a++b).length=a.length+b.length:=by show Array.size (a.cps++b.cps)=_;rw[Array.size_append];rfl
theorem AG {b:Type}(a:List b)(i:Int)(d:b)(h0:0<=i)(c:i<a.length):bT a i=Z9 (a.getD i.toNat d):=by
 unfold bT gE;rw[tw h0,tw c];show a[i.toNat]?=_;have:i.toNat<a.length:=by omega
 rw[aa,ac this];rfl
theorem Cg (h0:0<=i)(h1:i<z.length)(hz:z.length<=1000):dQ (.str z) (.int i)=.ok (.str (chr z i)):=by show(if z.length<=aT then Res.eG ((bT z.cps.toList i).map λc=>ZV ⟨#[c]⟩)else .no)=_;rw[tw (by unfold aT;omega),AG _ i 0 h0 (pu▸h1)];rfl
theorem qN {ns:List Str}{i:Int}(h0:0<=i)(a:i<ns.length):dQ (.list (ns.map .str)) (.int i)=.ok (.str (ns.getD i.toNat ⟨#[]⟩)):=by
 show Res.eG (bT (ns.map ZV) i)=_;rw[AG _ i (.str ⟨#[]⟩) h0 (by rw[ae];exact a)]
 congr 1
 have:i.toNat<ns.length:=by omega
 rw[aa,aa,ao,ac this];rfl
theorem Ek {ns:List Int}{i:Int}(h0:0<=i)(a:i<ns.length):dQ (.list (ns.map .int)) (.int i)=.ok (.int (ns.getD i.toNat 0)):=by
 show Res.eG (bT (ns.map ZU) i)=_;rw[AG _ i (.int 0) h0 (by rw[ae];exact a)]
 congr 1
 have:i.toNat<ns.length:=by omega
 rw[aa,aa,ao,ac this];rfl
theorem getD_mem {a:Type}{ns:List a}{i:Int}{d:a}(h0:0<=i)(b:i<ns.length):ns.getD i.toNat d∈ns:=by grind
theorem add_str (h:a.length+b.length<=1000):eC .Add (.str a) (.str b)=.ok (.str (a++b)):=by show(if _ then _ else _)=_;rw[tw (by unfold aT;omega)]
theorem add_list (h:a.length+b.length<=1000):eC .Add (.list a) (.list b)=.ok (.list (a++b)):=by show(if _ then _ else _)=_;rw[tw (by unfold aT;omega)]
theorem yx (h:-(2 ^ 64)<b/\b<2 ^ 64):eC .Mult (.int a) (.int b)=.ok (.int (a*b)):=by show(if _ then _ else _)=_;rw[tw (.inr h)]
theorem El (h:-(2 ^ 64)<a/\a<2 ^ 64):eC .Mult (.int a) (.int b)=.ok (.int (a*b)):=by show(if _ then _ else _)=_;rw[tw (.inl h)]
theorem eM (h:0<b):eC .Mod (.int a) (.int b)=.ok (.int (a%b)):=by show(if _ then _ else _)=_;rw[tw h]
theorem Sx:eC .Pow (.int 10) (.int 30)=.ok (.int 1000000000000000000000000000000):=rfl
theorem sW (h0:0<=n)(a:n<=1000):hP [.int n]=.ok ((bw n.toNat).map λ(i:Nat)=>.int i):=by show(if _ then _ else _)=_;rw[tw (by unfold aT;omega)]
theorem zW (h:z.length<=1000):pU (.str z) i j=.ok (.str (mK z i j)):=by show(if _ then _ else _)=_;rw[tw (by unfold aT;omega)]
theorem JJ (z:Str)(i j:Option Int):(mK z i j).length<=z.length:=by show(n9 (cut z.cps.toList i j)).size<=z.cps.size;unfold cut;rw[c8,eh,List.length_drop,pu];omega
theorem JK (ns:List Str):imms (ns.map .str)=true:=pS.mpr λx a=>by obtain⟨p,_,rfl⟩:=bz.mp a;rfl
theorem JL:∀ns,iI (ns.map .str)=Z9 ns
 | []=>rfl
 |n::ns=>by rw[br,iI,JL ns];rfl
theorem Sy:∀a,(∀s∈a,s.length=1)->(sF "" a).length=a.length
 | [],_=>rfl
 |x::r,h=>by
  show(n9 (x.cps.toList++(r.map λp=>([]:List Nat)++p.cps.toList).flatten)).size=_
  have b:∀(r:List Str),(∀s∈r,s.length=1)->((r.map λp=>([]:List Nat)++p.cps.toList).flatten).length=r.length:=by
   intro r
   induction r with
   |nil=>intro _;rfl
   |cons y r c=>intro h;rw[br,List.flatten_cons,aw,c λs hs=>h s (bc _ hs)];have:(([]:List Nat)++y.cps.toList).length=1:=h y bg;rw[bh];omega
  rw[c8,aw,b r λs hs=>h s (bc _ hs)];have:x.cps.toList.length=1:=h x bg;rw[bh];omega
theorem Sz (h:∀s∈a,s.length=1)(d:a.length<=1000):mtD "join" (.str "") [.list (a.map .str)]=.ok (.str (sF "" a)):=by
 have:mtD "join" (.str "") [.list (a.map .str)]=(match iI (a.map .str)with|some a=>if CJ "" a<=aT then .ok (.str (sF "" a))else .no|none=>.no):=rfl;rw[this,JL]
 dsimp only
 rw[tw];unfold CJ;have h0:("":Str).length=0:=rfl
 have b:∀(r:List Str),(∀s∈r,s.length=1)->(r.map (·.length)).sum=r.length:=by
  intro r
  induction r with
  |nil=>intro _;rfl
  |cons y r c=>intro h;rw[br,List.sum_cons,h y bg,c λs hs=>h s (bc _ hs),bh];omega
 rw[b a h,h0];unfold aT;omega
theorem Em (a b:Int):gI (.int a) (.int b)=decide (a=b):=by rfl
theorem uQ:aL Κ Φ (.var i) ρ=(xU ρ[i]?):=rfl
theorem SA:aL Κ Φ (.aO) a=(.ok (.fr,.none)):=rfl
theorem Eo:aL Κ Φ (.bl b) a=(.ok (.fr,.bool b)):=rfl
theorem SD:aL Κ Φ (.int i) a=(.ok (.fr,.int i)):=rfl
theorem SE:aL Κ Φ (.str x) a=(.ok (.fr,.str x)):=rfl
theorem JM:aL Κ Φ (.bin e a b) c=(aL Κ Φ a c>>=λx=>aL Κ Φ b c>>=λy=>eC e x.2 y.2>>=λd=>.ok (gN d (cN [x,y]),d)):=rfl
theorem SF:aL Κ Φ (.cmp op a b) ρ=(aL Κ Φ a ρ>>=λx=>aL Κ Φ b ρ>>=λy=>cmpD op x.2 y.2>>=λb=>.ok (.fr,.bool b)):=rfl
theorem SG:aL Κ Φ (.iY b a) c=(aL Κ Φ a c>>=λx=>.ok (.fr,.bool (match x.2 with|.none=>!b|_=>b))):=rfl
theorem SH:aL Κ Φ (.and a b) d=(aL Κ Φ a d>>=λx=>match x.2 with|.bool c=>if c then aL Κ Φ b d else .ok (.fr,.bool Z6)|_=>.no):=rfl
theorem Ep:aL Κ Φ (.or a b) d=(aL Κ Φ a d>>=λx=>match x.2 with|.bool c=>if c then .ok (.fr,.bool Z7)else aL Κ Φ b d|_=>.no):=rfl
theorem JN:aL Κ Φ (.sD c a b) d=(eA Κ Φ c d>>=λk=>if k then aL Κ Φ a d else aL Κ Φ b d):=rfl
theorem JO:aL Κ Φ (.tup b) c=(eF Κ Φ b c>>=λa=>.ok (gJ (.tuple (a.map (·.2))) (cN a),.tuple (a.map (·.2)))):=rfl
theorem SI:aL Κ Φ (.lst xs) ρ=(eF Κ Φ xs ρ>>=λys=>.ok (cN ys,.list (ys.map (·.2)))):=rfl
theorem yy:aL Κ Φ (.ix a b) c=(aL Κ Φ a c>>=λx=>aL Κ Φ b c>>=λy=>dQ x.2 y.2>>=λd=>.ok (gJ d x.1,d)):=rfl
theorem yz:aL Κ Φ (.sl a c e) b=(aL Κ Φ a b>>=λx=>uz Κ Φ c b>>=λl=>uz Κ Φ e b>>=λh=>pU x.2 l h>>=λd=>.ok (gN d (cN [x]),d)):=rfl
theorem Er:aL Κ Φ (.call k c args) a=(eF Κ Φ args a>>=λb=>match Φ[k]? with|some m=>m (b.map (·.2))>>=λr=>.ok (gJ r.2 (kL r.1),r.2)|none=>.no):=rfl
theorem Es:aL Κ Φ (.bi f args) a=(eF Κ Φ args a>>=λb=>iZ f (b.map (·.2))>>=λd=>.ok (gJ d .al,d)):=rfl
theorem JP:aL Κ Φ (.kJ f a) b=(CK Κ Φ a b>>=λw=>aggD f w.2.1 w.2.2>>=λd=>.ok (gJ d (if imms w.2.2 then .fr else agG w.1),d)):=rfl
theorem SJ:aL Κ Φ (.fY a ts) ρ=(aL Κ Φ a ρ>>=λx=>.ok (.fr,.bool (ts.any λT=>jJ (hJ x.2) T))):=rfl
theorem Et:aL Κ Φ (.mt m o args) a=(aL Κ Φ o a>>=λx=>eF Κ Φ args a>>=λb=>mtD m x.2 (b.map (·.2))>>=λd=>.ok (gJ d .al,d)):=rfl
theorem SK {a:C}:aL Κ Φ (.comp f g i h it a c) d=(evW Κ Φ it d>>=λw=>lG (λx=>fD h (gJ x w.1,x) (ay f Z8++g.map λj=>fI (d.getD j Z8))>>=λb=>eA Κ Φ a b>>=λk=>if k then aL Κ Φ c b>>=λy=>.ok (Z9 y)else .ok Z8) w.2>>=λe=>.ok (sE e,.list (e.map (·.2)))):=rfl
def Ev (Κ:List D)(Φ:List Fn)(c:C)(ρ:Rho)(d:D):Prop:=∃g,aL Κ Φ c ρ=.ok (g,d)
def Vv (Κ:List D)(Φ:List Fn)(c:C)(ρ:Rho)(d:D):Prop:=aL Κ Φ c ρ=.ok (.fr,d)/\imm d=Z7
def Aa (Κ:List D)(Φ:List Fn)(c:C)(ρ:Rho)(ds:List D):Prop:=∃ys,eF Κ Φ c ρ=.ok ys/\ys.map (·.2)=ds
def Av (Κ:List D)(Φ:List Fn)(c:C)(ρ:Rho)(ds:List D):Prop:=eF Κ Φ c ρ=.ok (ds.map λd=>(.fr,d))/\imms ds=Z7
def Tt (Κ:List D)(Φ:List Fn)(c:C)(ρ:Rho)(k:Bool):Prop:=eA Κ Φ c ρ=.ok k
theorem Vv.e (h:Vv Κ Φ c ρ d):Ev Κ Φ c ρ d:=⟨_,h.1⟩
theorem Ev.of (h:aL Κ Φ c ρ=.ok (g,d)):Ev Κ Φ c ρ d:=⟨_,h⟩
theorem aC (h:ρ[i]?=Z9 (Z9 (g,d))):Ev Κ Φ (.var i) ρ d:=⟨_,by rw[uQ];rw[h];rfl⟩
theorem v_var (h:ρ[i]?=Z9 (Z9 (g,d)))(a:imm d=Z7):Vv Κ Φ (.var i) ρ d:=⟨by rw[uQ];rw[h];show Res.ok (if imm d=Z7 then _ else _,d)=_;rw[tw a],a⟩
theorem aJ:Vv Κ Φ (.int i) ρ (.int i):=⟨by rw[SD],rfl⟩
theorem cP:Vv Κ Φ (.str i) ρ (.str i):=⟨by rw[SE],rfl⟩
theorem lQ:Vv Κ Φ (.bl i) ρ (.bool i):=⟨by rw[Eo],rfl⟩
theorem yA:Vv Κ Φ .aO a .none:=⟨by rw[SA],rfl⟩
theorem oB (a:imm d=Z7):gJ d g=.fr:=by unfold gJ;rw[tw a]
theorem JQ (a:imm d=Z7):gN d g=.fr:=by cases d<;>first|exact oB a|cases a
theorem bK (ha:Ev Κ Φ a ρ x)(hb:Ev Κ Φ b ρ y)(h:eC op x y=.ok d)(hi:imm d=Z7):Vv Κ Φ (.bin op a b) ρ d:=by obtain⟨g1,ha⟩:=ha;obtain⟨g2,hb⟩:=hb;refine⟨?_,hi⟩;rw[JM];rw[ha,Res.aB,hb,Res.aB];dsimp only;rw[h,Res.aB,JQ hi]
theorem Eu (c:Ev Κ Φ a f x)(d:Ev Κ Φ b f y)(h:eC g x y=.ok (.list e))(i:imms e=Z7):aL Κ Φ (.bin g a b) f=.ok (.fr,.list e):=by obtain⟨g1,c⟩:=c;obtain⟨g2,d⟩:=d;rw[JM];rw[c,Res.aB,d,Res.aB];dsimp only;rw[h];show Res.ok (if imms e=Z7 then _ else _,_)=_;rw[tw i]
theorem bZ (c:Ev Κ Φ a ρ x)(d:Ev Κ Φ b ρ y)(h:cmpD e x y=.ok k):Vv Κ Φ (.cmp e a b) ρ (.bool k):=by obtain⟨g1,c⟩:=c;obtain⟨g2,d⟩:=d;refine⟨?_,rfl⟩;rw[SF];rw[c,Res.aB,d,Res.aB];dsimp only;rw[h];rfl
def Ew:D->Bool
 |.none=>Z7
 |_=>Z6
theorem yB (b:Ev Κ Φ a d x):Vv Κ Φ (.iY c a) d (.bool (if Ew x then !c else c)):=by obtain⟨g1,b⟩:=b;refine⟨?_,rfl⟩;rw[SG];rw[b];cases x<;>rfl
theorem v_and (c:Ev Κ Φ a d (.bool k))(e:k=Z7->Vv Κ Φ b d (.bool f)):Vv Κ Φ (.and a b) d (.bool (k&&f)):=by
 obtain⟨g1,c⟩:=c;refine⟨?_,rfl⟩;rw[SH];rw[c];cases k with
 |true=>exact(e rfl).1
 |false=>rfl
theorem v_or (ha:Ev Κ Φ a ρ (.bool k))(hb:k=Z6->Vv Κ Φ b ρ (.bool k')):Vv Κ Φ (.or a b) ρ (.bool (k||k')):=by
 obtain⟨g1,ha⟩:=ha;refine⟨?_,rfl⟩;rw[Ep];rw[ha];cases k with
 |false=>exact(hb rfl).1
 |true=>rfl
theorem JR (hc:Tt Κ Φ c d k)(e:k=Z7->Vv Κ Φ a d x)(f:k=Z6->Vv Κ Φ b d y):Vv Κ Φ (.sD c a b) d (if k then x else y):=by
 cases k with
 |true=>exact⟨by rw[JN];rw[hc];exact(e rfl).1,(e rfl).2⟩
 |false=>exact⟨by rw[JN];rw[hc];exact(f rfl).1,(f rfl).2⟩
theorem eB:Av Κ Φ .nil ρ []:=⟨rfl,rfl⟩
theorem bG (c:Vv Κ Φ a ρ x)(d:Av Κ Φ b ρ e):Av Κ Φ (.cons a b) ρ (x::e):=⟨by rw[AF,c.1,Res.aB,d.1];rfl,by show(imm x&&imms e)=Z7;rw[c.2,d.2];rfl⟩
theorem aN:Aa Κ Φ .nil ρ []:=⟨[],rfl,rfl⟩
theorem aD (c:Ev Κ Φ a ρ x)(d:Aa Κ Φ b ρ f):Aa Κ Φ (.cons a b) ρ (x::f):=by obtain⟨g1,c⟩:=c;obtain⟨g,d,e⟩:=d;exact⟨_,by rw[AF,c,d];rfl,by rw[br,e]⟩
theorem jz (h:Av Κ Φ args ρ ds):Vv Κ Φ (.tup args) ρ (.tuple ds):=by refine⟨?_,h.2⟩;rw[JO];rw[h.1,Res.aB,Eh,oB (d:=.tuple ds) h.2]
theorem SM (h:Aa Κ Φ args a b):Ev Κ Φ (.tup args) a (.tuple b):=by obtain⟨c,h,e⟩:=h;exact⟨_,by rw[JO];rw[h,Res.aB,e]⟩
theorem kO (h:Av Κ Φ args ρ a):aL Κ Φ (.lst args) ρ=.ok (.fr,.list a):=by rw[SI];rw[h.1,Res.aB,Eh,Sq]
theorem aH (c:Ev Κ Φ a ρ x)(e:Ev Κ Φ b ρ y)(h:dQ x y=.ok d)(f:imm d=Z7):Vv Κ Φ (.ix a b) ρ d:=by obtain⟨g1,c⟩:=c;obtain⟨g2,e⟩:=e;refine⟨?_,f⟩;rw[yy];rw[c,Res.aB,e,Res.aB];dsimp only;rw[h,Res.aB,oB f]
def Oo (Κ:List D)(Φ:List Fn)(c:C)(ρ:Rho)(i:Option Int):Prop:=uz Κ Φ c ρ=.ok i
theorem uG:Oo Κ Φ .nil a none:=rfl
theorem uR (h:Ev Κ Φ a ρ (.int i)):Oo Κ Φ (.tv a) ρ (Z9 i):=by obtain⟨g1,h⟩:=h;unfold Oo;rw[Ed,h];rfl
theorem yC (e:Ev Κ Φ a f x)(g:Oo Κ Φ b f i)(hc:Oo Κ Φ c f j)(h:pU x i j=.ok d)(k:imm d=Z7):Vv Κ Φ (.sl a b c) f d:=by obtain⟨g1,e⟩:=e;unfold Oo at g hc;refine⟨?_,k⟩;rw[yz];rw[e,Res.aB,g,Res.aB,hc,Res.aB];dsimp only;rw[h,Res.aB,JQ k]
theorem bW (a:Aa Κ Φ args ρ c)(hf:Φ[n]?=Z9 m)(h:m c=.ok (g,d))(b:imm d=Z7):Vv Κ Φ (.call n f args) ρ d:=by obtain⟨i,a,e⟩:=a;refine⟨?_,b⟩;rw[Er];rw[a,Res.aB,hf];dsimp only;rw[e,h,Res.aB,oB b]
theorem eX (a:Aa Κ Φ args ρ b)(hf:Φ[n]?=Z9 m)(h:m b=.ok (g,d)):Ev Κ Φ (.call n f args) ρ d:=by obtain⟨c,a,e⟩:=a;exact⟨_,by rw[Er];rw[a,Res.aB,hf];dsimp only;rw[e,h,Res.aB]⟩
theorem AH (a:Aa Κ Φ args ρ b)(hf:Φ[n]?=Z9 m)(h:m b=.ok (.fr,.list xs)):aL Κ Φ (.call n f args) ρ=.ok (.fr,.list xs):=by obtain⟨c,a,e⟩:=a;rw[Er];rw[a,Res.aB,hf];dsimp only;rw[e,h];rfl
theorem bM (a:Aa Κ Φ args ρ c)(h:iZ f c=.ok d)(b:imm d=Z7):Vv Κ Φ (.bi f args) ρ d:=by obtain⟨g,a,e⟩:=a;refine⟨?_,b⟩;rw[Es];rw[a,Res.aB,e,h,Res.aB,oB b]
theorem JS (ha:Ev Κ Φ a ρ x)(hw:z55 x=.ok w)(h:aggD f w.1 w.2=.ok d)(hi:imm d=Z7):Vv Κ Φ (.kJ f (.tv a)) ρ d:=by obtain⟨g1,ha⟩:=ha;refine⟨?_,hi⟩;rw[JP];rw[yw,ha,Res.aB];dsimp only;rw[hw];simp only[Res.aB];rw[h,Res.aB,oB hi]
theorem yD (b:Ev Κ Φ a ρ x)(c:z55 x=.ok w)(h:aggD f w.1 w.2=.ok d)(e:imms w.2=Z7):aL Κ Φ (.kJ f (.tv a)) ρ=.ok (.fr,d):=by obtain⟨g1,b⟩:=b;rw[JP];rw[yw,b,Res.aB];dsimp only;rw[c];simp only[Res.aB];rw[h,Res.aB];unfold gJ;split<;>rfl
theorem AI (b:Ev Κ Φ a c x):Vv Κ Φ (.fY a d) c (.bool (d.any λT=>jJ (hJ x) T)):=by obtain⟨g1,b⟩:=b;refine⟨?_,rfl⟩;rw[SJ];rw[b];rfl
theorem qO (a:Ev Κ Φ o ρ x)(b:Aa Κ Φ args ρ f)(h:mtD m x f=.ok d)(c:imm d=Z7):Vv Κ Φ (.mt m o args) ρ d:=by obtain⟨g1,a⟩:=a;obtain⟨g,b,e⟩:=b;refine⟨?_,c⟩;rw[Et];rw[a,Res.aB,b,Res.aB,e];dsimp only;rw[h,Res.aB,oB c]
theorem aP (h:Ev Κ Φ a ρ x)(b:kK x=.ok k):Tt Κ Φ (.tv a) ρ k:=by obtain⟨g1,h⟩:=h;unfold Tt;rw[Ee,h];exact b
theorem SN:Tt Κ Φ .nil a true:=rfl
theorem qP (ha:Tt Κ Φ a ρ k)(hb:k=Z7->Tt Κ Φ b ρ k'):Tt Κ Φ (.and a b) ρ (k&&k'):=by
 unfold Tt at *
 rw[Sk,ha];cases k with
 |true=>exact hb rfl
 |false=>rfl
theorem oE (d:Tt Κ Φ a c k)(e:k=Z6->Tt Κ Φ b c f):Tt Κ Φ (.or a b) c (k||f):=by
 unfold Tt at *
 rw[Ef,d];cases k with
 |false=>exact e rfl
 |true=>rfl
theorem mM (b:Tt Κ Φ a c k):Tt Κ Φ (.not a) c (!k):=by
 unfold Tt at *
 rw[Sm,b];rfl
theorem z2n {b:Type}{cond:C}{m:b->D}{xs:List b}(p:b->Bool)(f:b->D)(c:evW Κ Φ it ρ=.ok w)(a:w.2=xs.map m)(r:b->Rho)
  (d:∀x∈xs,fD tg (gJ (m x) w.1,m x) (ay nt Z8++js.map λj=>fI (ρ.getD j Z8))=.ok (r x)) (hc:∀x∈xs,Tt Κ Φ cond (r x) (p x)) (g:∀x∈xs,p x=Z7->Vv Κ Φ elt (r x) (f x)):
  aL Κ Φ (.comp nt js N' tg it cond elt) ρ=.ok (.fr,.list ((xs.filter p).map f)):=by
 rw[SK];rw[c,Res.aB,a]
 rw[JI (λx=>if p x then Z9 (f x)else Z8) xs λx a=>by
  rw[d x a,Res.aB];have:=hc x a;rw[this];cases e:p x with
  |true=>rw[(g x a e).1];rfl
  |false=>rfl]
 rw[Res.aB,So,Eh]
 have:(xs.filterMap λx=>if p x=Z7 then Z9 (f x)else Z8)=(xs.filter p).map f:=by
  clear a d hc g c
  induction xs with
  |nil=>rfl
  |cons x xs h=>
   cases e:p x with
   |true=>rw[mu (by rw[e];rfl),gj e,br,h]
   |false=>rw[mo (by rw[e];rfl),gk (e▸jx),h]
 rw[this]
theorem fK (h:aL Κ Φ a ρ=.ok (g,x))(b:z54 x=.ok c):evW Κ Φ (.tv a) ρ=.ok (g,c):=by rw[Eg,h,Res.aB];dsimp only;rw[b];rfl
theorem sX (h:Aa Κ Φ args ρ ds)(a:hP ds=.ok b):evW Κ Φ (.eI args) ρ=.ok (.fr,b):=by obtain⟨c,h,e⟩:=h;rw[Sn,h,Res.aB,e,a];rfl
theorem oF (h:Vv Κ Φ t ρ d):aV Κ Φ (.asg (.nm i) t) ρ=.ok (.nx (ρ.set i (Z9 (.al,d)))):=by rw[Eb,h.1];show Res.ok (Out.nx (ρ.set i (Z9 (if imm d then(.al,d)else _))))=_;rw[tw h.2]
theorem kP (h:aL Κ Φ t ρ=.ok (.fr,.list xs))(a:imms xs=Z7):aV Κ Φ (.asg (.nm i) t) ρ=.ok (.nx (ρ.set i (Z9 (.fr,.list xs)))):=by rw[Eb,h];show Res.ok (Out.nx (ρ.set i (Z9 (if imms xs then .fr else .nu,.list xs))))=_;rw[tw a]
theorem AJ (h:aL Κ Φ t ρ=.ok (.fr,.dict es))(a:cO es=Z7):aV Κ Φ (.asg (.nm i) t) ρ=.ok (.nx (ρ.set i (Z9 (.fr,.dict es)))):=by rw[Eb,h];show Res.ok (Out.nx (ρ.set i (Z9 (if cO es then .fr else .nu,.dict es))))=_;rw[tw a]
theorem JT (a:∀i,t≠.var i):aV Κ Φ (.ret t) b=(aL Κ Φ t b>>=λx=>.ok (.rt (kL x.1) x.2)):=by cases t<;>first|exact absurd rfl (a _)|rfl
theorem cB (h:Vv Κ Φ t ρ d):aV Κ Φ (.ret t) ρ=.ok (.rt .fr d):=by
 by_cases c:∀i,t≠.var i
 .rw[JT c,h.1];rfl
 obtain⟨i,rfl⟩:∃i,t=.var i:=by cases t<;>first|exact⟨_,rfl⟩|exact(c λi z=>by cases z).elim
 have a:=h.1;rw[uQ]at a;rw[JF];cases hr:ρ[i]? with
 |none=>rw[hr]at a;cases a
 |some o=>
  cases o with
  |none=>rw[hr]at a;cases a
  |some gd=>
   obtain⟨g,b⟩:=gd;rw[hr]at a;have:b=d:=by have:=congrArg (λr:Res GD=>match r with|.ok p=>p.2|_=>.none) a;exact this
   subst this;show Res.ok (Out.rt (if imm b=Z7 then _ else _) b)=_;rw[tw h.2]
theorem Ex (a:∀i,t≠.var i)(h:aL Κ Φ t b=.ok (.fr,.list c)):aV Κ Φ (.ret t) b=.ok (.rt .fr (.list c)):=by rw[JT a,h];rfl
theorem jU (hc:Tt Κ Φ c ρ k)(h1:k=Z7->aV Κ Φ p ρ=r)(h2:k=Z6->aV Κ Φ q ρ=r):aV Κ Φ (.bN c p q) ρ=r:=by
 rw[Ec,hc];cases k with
 |true=>exact h1 rfl
 |false=>exact h2 rfl
theorem gA:aV Κ Φ .nil ρ=.ok (.nx ρ):=rfl
theorem SO {y:GD}(h:imm y.2=Z7):okIn y=true:=by unfold okIn;rw[h];rfl
theorem AK (d:Vv Κ Φ a c x)(hr:c[i]?=Z9 (Z9 (.fr,.list b)))(e:b.length<1000):aV Κ Φ (.mut "append" i (.cons a .nil)) c=.ok (.nx ((c.set i (Z9 (.fr,.list (b++[x])))).map pT)):=by
 rw[Sg,AF,d.1,Res.aB,Sj,Res.aB,Res.aB,hr]
 dsimp only
 have:nI "append" b [(.fr,x)]=.ok (b++[x]):=by show(if(okIn (G.fr,x)&&decide (b.length<aT))=Z7 then _ else _)=_;rw[tw];rw[SO d.2];refine ua ?_;unfold aT;omega
 rw[this];rfl
theorem SQ (h:a[i]?=Z9 (Z9 (g,d)))(b:g≠.fr)(c:imm d=Z7)(e:z54 d=.ok f):evF Κ Φ (.tv (.var i)) a=.ok (.fr,f,a):=by
 have j:lH a i=false:=by
  unfold lH;rw[h];cases g with
  |fr=>exact absurd rfl b
  |od=>rfl
  |al=>rfl
  |nu=>rfl
 rw[JG,j];unfold lI sG;rw[fK ((v_var h c).1) e];rfl
theorem Ey (h:a[i]?=Z9 (Z9 (.od,d)))(b:imm d=Z6)(c:z54 d=.ok e):evF Κ Φ (.tv (.var i)) a=.ok (.od,e,a):=by
 have f:aL Κ Φ (.var i) a=.ok (.od,d):=by rw[uQ];rw[h];show Res.ok (if imm d=Z7 then _ else _,d)=_;rw[b];rfl
 have g:lH a i=false:=by unfold lH;rw[h]
 rw[JG,g];unfold lI sG;rw[fK f c];rfl
theorem AL (h:Aa Κ Φ args ρ ds)(hw:hP ds=.ok xs):evF Κ Φ (.eI args) ρ=.ok (.fr,xs,ρ):=by show sG Κ Φ (.eI args) ρ=_;unfold sG;rw[sX h hw];rfl
theorem SR {x:GD}(c:aL Κ Φ a b=.ok x)(ca:z6 x=Z7)(d:seqR x.2=.ok f):evF Κ Φ (.enum a) b=.ok (.al,z2g 0 f,b):=by
 have e:eF Κ Φ (.cons a .nil) b=.ok [x]:=by rw[AF,c];rfl
 show(eF Κ Φ (.cons a .nil) b>>=λg=>pW g b)=_;rw[e,Res.aB];unfold pW
 dsimp only
 rw[ca,d];rfl
theorem SS (b:a.length<=1000):seqR (.list a)=.ok a:=by show(if decide (a.length<=aT)=Z7 then Res.ok a else .no)=_;rw[ua (show a.length<=aT by unfold aT;omega)];rfl
theorem SU (h:imms a=Z7)(b:a.length<=1000):seqR (.list a)=.ok a:=SS b
theorem AM (a:imm x=Z7)(b:imm y=Z7):fD (.tp [i,j]) (gJ (.tuple [x,y]) g,.tuple [x,y]) ρ=.ok ((ρ.set i (Z9 (.al,x))).set j (Z9 (.al,y))):=by show Res.eG (Z9 ((ρ.set i (Z9 (z1f (gJ x _,x)))).set j (Z9 (z1f (gJ y _,y)))))=_;rw[oB a,oB b];rfl
theorem Ez (h:evF Κ Φ it c=.ok w)(k:dU (λx a=>fD d (gJ x w.1,x) a>>=λb=>aV Κ Φ p b) w.2.1 w.2.2=r):aV Κ Φ (.bH d it p) c=r:=by rw[Sh,h];exact k
theorem uS (hc:Tt Κ Φ c ρ k)(hk:k=Z7)(h:aV Κ Φ p ρ=.ok (.rt g d)):aV Κ Φ (.seq (.bN c p q) rest) ρ=.ok (.rt g d):=bO (jU hc (λ_=>h) λz=>by rw[hk]at z;cases z)
theorem pE (hc:Tt Κ Φ c ρ k)(a:k=Z6)(h:aV Κ Φ rest ρ=r):aV Κ Φ (.seq (.bN c p .nil) rest) ρ=r:=cZ (jU hc (λz=>by rw[a]at z;cases z) λ_=>gA) h
theorem z5i (h:a[i]?=Z9 (Z9 (.fr,.list b))):aV Κ Φ (.ret (.var i)) a=.ok (.rt .fr (.list b)):=by rw[JF,h];rfl
theorem cQ {Q:Res Out->Prop}(h:aV Κ Φ p ρ=.ok (.nx a))(k:Q (aV Κ Φ q a)):Q (aV Κ Φ (.seq p q) ρ):=by rw[cZ h rfl];exact k
theorem EA {Q:Res Out->Prop}(h:aV Κ Φ p a=.ok (.rt g d))(k:Q (.ok (.rt g d))):Q (aV Κ Φ (.seq p q) a):=by rw[bO h];exact k
theorem zsz {Q:Res Out->Prop}{l:Type}{m:l->D}{j:List l}(h:evF Κ Φ it k=.ok (g,j.map m,b))(I:List l->Rho->Prop)(h0:I [] b)
  (hf:∀pre x d k,j=pre++x::d->I pre k->∃a,(fD n (gJ (m x) g,m x) k>>=λc=>aV Κ Φ p c)=.ok (.nx a)/\I (pre++[x]) a) (o:∀a,I j a->Q (aV Κ Φ rest a)):Q (aV Κ Φ (.seq (.bH n it p) rest) k):=by
 obtain⟨a,e,i⟩:=JH (f:=λx b=>fD n (gJ x g,x) b>>=λc=>aV Κ Φ p c) I j [] b hf h0;rw[cZ (Ez h e) rfl];exact o a i
theorem zsn {Q:Res Out->Prop}{β:Type}{m:β->D}{xs:List β}(h:evF Κ Φ it ρ=.ok (g,xs.map m,ρ1))(I:List β->Rho->Prop)(h0:I [] ρ1)
  (hf:∀pre x post ρ,xs=pre++x::post->I pre ρ->∃uA cF,fD t' (gJ (m x) g,m x) ρ=.ok uA/\aV Κ Φ p uA=.ok (.nx cF)/\I (pre++[x]) cF) (hk:∀cF,I xs cF->Q (aV Κ Φ rest cF)):Q (aV Κ Φ (.seq (.bH t' it p) rest) ρ):=
 zsz h I h0 (λpre x post ρ hx hI=>by obtain⟨uA,cF,h1,h2,h3⟩:=hf pre x post ρ hx hI;exact⟨cF,by rw[h1,Res.aB,h2],h3⟩) hk
theorem JU {Q:Res Out->Prop}(hc:Tt Κ Φ c a k)(b:k=Z6)(h:Q (aV Κ Φ rest a)):Q (aV Κ Φ (.seq (.bN c p .nil) rest) a):=by rw[pE hc b rfl];exact h
end
end Mk
namespace Mi
open PySem PySem.Spec PyProof.Rows L2
section
open PySem.SeqAt
end
open PySem.W
section
open PySem.SeqAt
end
def EB (K:Z5)(en:Bool)(R:It->Hp->Prop)(v:V)(H1:Hp):Prop:=∃B d xs,Rep K H1 B v d/\(if en then seqR d else z54 d)=.ok xs/\∀J,Walk K J B H1 (if en then z2g 0 xs else xs)->R J H1
def AN (K:Z5)(en:Bool)(t:TE):TI:=λσ H R=>t σ H (EB K en R)
theorem SV (c:PE X a t):PI X k a (AN X.K Z6 t):=by intro b s f H R I h;exact aM (c b s f H _ I h) λv l ⟨y,m,g,i,B,d,n,j,e,q⟩=>z37 g i j e q
theorem SW (hm:X.mg "enumerate"=Z8)(i:Gl X "enumerate")(hs:isStar a=Z6)(j:PE X a t):PI X (.Tuple f r tp) (.Call (.Name "enumerate" p) [a] [] pos) (AN X.K Z7 t):=by
 intro b s k H R I h;refine Call_ (z2p I i hm DF (PyProof.Rows.callWith_type1 (aM (eU j lD hs pos b s k H (λc g=>match c with| [v]=>EB X.K Z7 R v g|_=>False) I h) ?_) (eQ hs) rfl))
 rintro x y ⟨c,g,l,m,z⟩
 rcases c with _|⟨v,_|⟨w,c⟩⟩
 .exact z.elim
 .obtain⟨u,rfl,n⟩:=vals1 m;obtain⟨B,d,A,o,e,q⟩:=z;exact z4l l n o e q
 .exact z.elim
def AO:V->List V->Hp->VK->Prop:=λx xs H Q=>∃d kvs,x=.ref d/\xs=[]/\H d=Z9 (.dK kvs)/\∀p,H p=Z8->Q (.ref p) (upd H p (.ext λh=>h.IsItemsView p d))
theorem SX:MtR X "dict.items" AO:=by
 rintro pins s σ H x xs v us Q I rx rv ⟨d,kvs,rfl,rfl,hd,q⟩
 cases rx;cases rv;obtain⟨_,EC,vs,rel,JV⟩:=xx I.hok hd;refine qo PySem.F.slot_dict_items JV.typeIs PySem.F.entry_dict_items (PySem.F.args_dict_items_1 _) (meets_dict_items (gT X.prog X.w) d EC) ⟨⟨vs,JV⟩,?_⟩;exact⟨.ref s.heap.objs.size,_,I.laid (o:=.ext λh=>h.IsItemsView s.heap.objs.size d) (λ_ _ q=>am _ q) (ak _) ⟨⟨_,bx _ rfl,rfl,rfl⟩,⟨_,bx _ rfl⟩,λh1 h2 ⟨o,ho,r⟩ k=>⟨o,k o ho,r⟩⟩,rfl,q _ (I.hok.fresh (ak _))⟩
def AQ (K:Z5):List V->Hp->VK->Prop:=λxs H Q=>∃p d kvs es,xs=[.ref p]/\H p=Z9 (.ext λh=>h.IsItemsView p d)/\H d=Z9 (.dK kvs)/\aZ K H (λ_=>False) kvs es/\∀w H',Same H H'->Rep K H' (nw H) w (.list (es.map ent))->Q w H'
theorem SY (hc:X.calm=Z7):CallR X (.type "list") (AQ X.K):=by
 rintro w s U H xs us Q I r ⟨p,d,kvs,es,rfl,W,hd,rs,q⟩
 obtain⟨u,rfl,rfl⟩:=vals1 r;obtain⟨m,_,_⟩:=I.hok p _ W;obtain⟨F,R,vs,rel,o,M,ep,Y,N,y,r3⟩:=xx I.hok hd;have lk:=rel.length;have le:=rs.length;refine kdx_call (I.ok.hd hc) m ⟨o,M,Y,N,y,r3⟩ (by omega) λh' tk acc c as hk hS hl G A=>?_;have I1:Inv X w U H {s with heap:=h',toks:=tk}:=I.kept hk;have lz:as.length=kvs.length:=by omega
 have S:((as.zip (kvs.map λg=>[kV g.1,g.2])).map (·.1))=as:=List.map_fst_zip (by grind)
 have l:∀z∈as.zip (kvs.map λg=>[kV g.1,g.2]),∃j k v,as[j]?=Z9 z.1/\kvs[j]?=Z9 (k,v)/\z.2=[kV k,v]:=λz O=>by
  obtain⟨j,hj,T⟩:=List.getElem_of_mem O;have hj':j<as.length/\j<kvs.length:=by rw[List.length_zip]at hj;omega
  refine⟨j,(kvs[j]'hj'.2).1,(kvs[j]'hj'.2).2,?_,ac hj'.2,?_⟩
  .rw[<-T,List.getElem_zip];exact ac hj'.1
  .rw[<-T];simp
 obtain⟨H1,I2,sm,ht,hr⟩:=z88 (as.zip (kvs.map λg=>[kV g.1,g.2])) I1 (by rw[S];exact G.rise.imp λh=>cv h)
  (λz F=>by obtain⟨j,k,v,t,_,_⟩:=l z F;have B:=G.above z.1 (aq t);exact I.gZ (i0 B) (I.hok.fresh (i0 B)))
  (λz F=>by obtain⟨j,k,v,t,J,h3⟩:=l z F;obtain⟨P,k',x,g1,g2,g3⟩:=G.pairs j z.1 t;obtain⟨u,g4,ru⟩:=QA rel J;rw[g4]at g1;cases g1;rw[h3];exact⟨by rw[cb];simp,[P,_],.cons (QB g2) (.cons ru .nil),0,g3⟩)
 have n:=I.hok.fresh (ak _);have L:H1 s.heap.objs.size=none:=by rw[hr,n];rw[S];exact λz=>dm _ (G.above _ z)
 refine⟨.ref s.heap.objs.size,_,I2.sQ (u:=.lst (as.map V.ref)) ((I.gZ (ak _) n) |> λf=>⟨L,f.2⟩) ⟨by rw[ae];omega,as.map ZS,c,IM as,by rw[<-A];exact hS⟩,rfl,q _ _ (sm.trans (Same.upd L)) ⟨_,as.map V.ref,rfl,.inl ⟨bF,n⟩,?_⟩⟩;refine An (by grind) λi v dd t J=>?_;rw[ao]at t J;obtain⟨a,B,rfl⟩:=bp.mp t;obtain⟨ev,C,rfl⟩:=bp.mp J;have hi:i<kvs.length:=lz▸(ax.mp B).1;have D:kvs[i]?=Z9 (kvs[i].1,kvs[i].2):=by simp[hi]
 obtain⟨dv,h4,ok,rv⟩:=aZ.at rs D;rw[h4]at C;cases C;have E:=ht (a,[kV kvs[i].1,kvs[i].2]) (by refine ce.mpr ⟨i,?_⟩;rw[List.getElem?_zip_eq_some];exact⟨B,by rw[ao,D];rfl⟩);refine⟨a,_,rfl,dD.of (by rw[aG (bR E L)];exact E),Reps.cons (QC ok) (Reps.cons ?_ rfl)⟩;exact Rep.keep (λb u e f=>(sm.trans (Same.upd L)) b u e) (λ_ z=>z.elim) dv rv
inductive W where
 |aX (c:C)|raw (i:Nat)|cmp (op:CmpOp) (a b:W)|iY (ng:Bool) (a:W)|and (a b:W)|yE (c a b:W)|tup (xs:W)|lst (xs:W)|hG|ix (a b:W)|len (a:W)|uT (a b:W)|jA (o:W) (f:Str)|gO (j:Nat) (as:W)|cC (o:W) (j:Nat) (as:W)|mk (j:Nat) (as:W)|tp (c:C)|tc (op:CmpOp) (a b:W)|ti (ng:Bool) (a:W)|jV (a:W)|not (a:W)|iM (a b:W)|wd (a b:W)|kA (f:Str)|qQ (a b:W)|qR (o:W) (j:Nat) (as:W)|AR (a:W)|lit (o:W)|lc (nt:Nat) (js:List Nat) (N':List Str) (t:Tg) (en:Bool) (it c e:W)|AS (op uU:CmpOp) (a b c:W)|wg (o:W) (j:Nat) (as k:W)|d4 (p q r s:Str) (a b c d:W)|nil|cons (a r:W)
 deriving Inhabited
structure Wc where
 K:Z5
 mg:Str->Option Value
 Κ:List D
 Φ:List Fn
 E:XK
 fn:List Sp
 me:List (Addr×Str×Sp)
 cl:List (Addr×Sp)
 xf:Option V:=Z8
 gi:List Int:=[]
 hf:List (Addr×Sp):=[]
 md:List (Addr×Str×Sp):=[]
 mq:List (Addr×Str×Sp):=[]
structure Gw where
 g:Gm
 fn:List (Str×Nat)
 me:List (Str×Nat)
 cl:List (Str×Nat)
 xf:Option Str:=Z8
 gi:List Str:=[]
 fld:List (Str×Str):=[]
 hf:List (Str×Nat):=[]
 md:List (Str×Nat):=[]
 mq:List (Str×Str):=[]
def kwG {α:Type}(us:List α):List α->List α
 | [w]=>us++[w]
 |_=>[]
def yF (C:Addr)(m:Str)(sp:Sp)(E:XK)(ta:TE)(t:TA)(tk:TE):TE:=λσ H Q=>ta σ H λx H1=>∃a dx fs,x=.ref a/\H1 a=Z9 (.ins C dx fs)/\fs.lookup m=Z8/\t σ H1 λvs H2=>tk σ H2 λz H3=>sp (x::(vs++[z])) H3 Q E
def fN:TE:=λ_ _ _=>False
def ED (K:Z5)(t:TE):TT:=λσ H Q=>t σ H λx H'=>∃k,mW K x H' k/\Q k H'
mutual
def wE:Wc->W->TE
 |Z,.aX c=>tD Z.K (aL Z.Κ Z.Φ c)
 |Z,.raw i=>tU i
 |Z,.cmp op a b=>kF (jN Z.K (mB (cmpD op))) (wE Z a) (wE Z b)
 |Z,.iY ng a=>if ng then zL (wE Z a)else pM (wE Z a)
 |Z,.and a b=>GZ (wE Z a) (wE Z b)
 |Z,.yE c a b=>G0 (wT Z c) (wE Z a) (wE Z b)
 |Z,.tup xs=>xr (wA Z xs)
 |Z,.lst xs=>xu (wA Z xs)
 |Z,.hG=>Hx
 |Z,.ix a b=>kF (jO Z.K) (wE Z a) (wE Z b)
 |Z,.uT a b=>Hw (wE Z a) (wE Z b)
 |Z,.len a=>mX (z72 Z.K (iZ "len")) (oY (wE Z a) fF)
 |Z,.jA o f=>ud Z.K (wE Z o) f
 |Z,.gO j as=>match Z.fn[j]? with|some sp=>oZ sp [] Z.E (wA Z as)|none=>fN
 |Z,.cC o j as=>match Z.me[j]? with|some r=>kG r.1 r.2.1 r.2.2 [] Z.E (wE Z o) (wA Z as)|none=>fN
 |Z,.mk j as=>match Z.cl[j]? with|some r=>xv r.1 r.2 [] Z.E (wA Z as)|none=>fN
 |Z,.kA _=>match Z.xf with|some v=>λ_ H Q=>Q v H|none=>fN
 |Z,.qQ a b=>kF (xE Z.K) (wE Z a) (wE Z b)
 |Z,.qR o j as=>match Z.md[j]? with|some r=>kG r.1 r.2.1 r.2.2 [.aO] Z.E (wE Z o) (wA Z as)|none=>fN
 |Z,.wg o j as k=>match Z.mq[j]? with|some r=>yF r.1 r.2.1 r.2.2 Z.E (wE Z o) (wA Z as) (wE Z k)|none=>fN
 |Z,.d4 p q r s a b c d=>HF [(tD Z.K (aL Z.Κ Z.Φ (.str p)),wE Z a),(tD Z.K (aL Z.Κ Z.Φ (.str q)),wE Z b),(tD Z.K (aL Z.Κ Z.Φ (.str r)),wE Z c),(tD Z.K (aL Z.Κ Z.Φ (.str s)),wE Z d)]
 |Z,.AR a=>mX (rAgg Z.K "list") (oY (wE Z a) fF)
 |Z,.lit o=>mX (AQ Z.K) (oY (mZ Z.K "dict" AO (wE Z o)) fF)
 |Z,.lc nt js _ t en it c e=>xJ (AN Z.K en (wE Z it)) (tDG Z.K t) (wT {Z with E:=λ_ _ _=>False,xf:=Z8} c) (wE {Z with E:=λ_ _ _=>False,xf:=Z8} e) (fH nt js)
 |_,_=>fN
def wA:Wc->W->TA
 |Z,.nil=>fF
 |Z,.cons a r=>oY (wE Z a) (wA Z r)
 |_,_=>λ_ _ _=>False
def wT:Wc->W->TT
 |Z,.tp c=>eD Z.K (eA Z.Κ Z.Φ c)
 |Z,.tc op a b=>rY (kF (jN Z.K (mB (cmpD op))) (wE Z a) (wE Z b))
 |Z,.ti ng a=>rY (if ng then zL (wE Z a)else pM (wE Z a))
 |Z,.jV a=>ED Z.K (wE Z a)
 |Z,.not a=>xb (wT Z a)
 |Z,.iM a b=>wZ (wT Z a) (wT Z b)
 |Z,.wd a b=>GV (wT Z a) (wT Z b)
 |Z,.AS op uU a b c=>rY (B8 (jN Z.K (mB (cmpD op))) (jN Z.K (mB (cmpD uU))) (wE Z a) (wE Z b) (wE Z c))
 |_,.nil=>xI
 |_,_=>λ_ _ _=>False
end
def AU (Γ:Gw)(scope:Scope)(N':List Str):Gw:={Γ with g:={Γ.g with N:=N',sc:=z7 scope Γ.g.sc,blk:=Z7,xc:=Z8},xf:=Z8}
def qT {α:Type}:List α->Option (α×α×α×α)
 | [x,y,z,u]=>Z9 (x,y,z,u)
 |_=>Z8
theorem JW (h:qT l=Z9 v):l=[v.1,v.2.1,v.2.2.1,v.2.2.2]:=by
 unfold qT at h;split at h
 .cases h;rfl
 .cases h
def AV (g:Gm)(x:Str)(o:Option Expr):Bool:=o.any λk=>chkE g (.str x) k
def S0:W->Bool
 |.nil=>Z7
 |_=>Z6
mutual
def bD:Gw->W->Expr->Bool
 |Γ,.aX c,e=>chkE Γ.g c e
 |Γ,.raw i,e=>lK (nK Γ.g i) e
 |Γ,.cmp op a b,e=>(nN e).any λv=>decide (v.2.1=[op])&&(bI v.2.2).any λr=>z4r op&& !(d6 op r)&&bD Γ a v.1&&bD Γ b r
 |Γ,.iY ng a,e=>(nN e).any λv=>decide (v.2.1=[if ng then .IsNot else .Is])&&(bI v.2.2).any λr=>decide (fJ r=Z9 .none)&&bD Γ a v.1
 |Γ,.and a b,e=>(sI e).any λv=>decide (v.1=.And)&&sM (λx=>bD Γ a x) (λx=>bD Γ b x) .And v.2.2 v.2.1
 |Γ,.yE c a b,e=>(uB e).any λv=>mO Γ c v.1&&bD Γ a v.2.1&&bD Γ b v.2.2
 |Γ,.tup xs,e=>(pY e).any λes=>lR Γ xs es
 |Γ,.lst xs,e=>(uC e).any λes=>lR Γ xs es
 |Γ,.hG,e=>(z9 e).any λv=>v.1.isEmpty&&v.2.isEmpty
 |Γ,.ix a b,e=>(jL e).any λv=>z2v v.2&&bD Γ a v.1&&bD Γ b v.2
 |Γ,.uT a b,e=>(jL e).any λv=>z2v v.2&&bD Γ a v.1&&bD Γ b v.2
 |Γ,.len a,e=>(jM e).any λv=>(v.1==("len":Str))&&dW Γ.g v.1&&(bI v.2).any λy=>!isStar y&&bD Γ a y
 |Γ,.jA o f,e=>(uD e).any λv=>(v.2.1==f)&&z0w v.1&&bD Γ o v.1
 |Γ,.gO j as,e=>(jM e).any λv=>nM Γ.g v.1&&(Γ.fn[j]?==Z9 (v.1,v.2.length))&&lR Γ as v.2&&(Γ.g.cm&& !v.2.isEmpty)
 |Γ,.cC o j as,e=>Γ.g.cm&&(sJ e).any λv=>(z0w v.1&&v.2.2.2&&decide (v.2.2.1.length<20))&&(Γ.me[j]?==Z9 (v.2.1,v.2.2.1.length))&&bD Γ o v.1&&lR Γ as v.2.2.1
 |Γ,.mk j as,e=>(jM e).any λv=>nM Γ.g v.1&&(Γ.cl[j]?==Z9 (v.1,v.2.length))&&lR Γ as v.2&&(Γ.g.cm&& !v.2.isEmpty)
 |Γ,.kA f,e=>(uD e).any λv=>(v.2.1==f)&&z0w v.1&&(lK (λx=>Γ.g.xc.any λu=>u.1==x) v.1)&&(Γ.xf==Z9 f)
 |Γ,.qQ a b,e=>(jL e).any λv=>z2v v.2&&bD Γ a v.1&&bD Γ b v.2
 |Γ,.qR o j as,e=>Γ.g.cm&&(sJ e).any λv=>(z0w v.1&&v.2.2.2&&decide (v.2.2.1.length<20))&&(Γ.md[j]?==Z9 (v.2.1,v.2.2.1.length))&&bD Γ o v.1&&(lR Γ as v.2.2.1&& !v.2.2.1.isEmpty)
 |Γ,.wg o j as k,e=>Γ.g.cm&&(Ab e).any λv=>(uD v.1).any λu=>(bI v.2.2.1).any λkw=>(z0w u.1&&(u.2.2.endLine==v.2.2.2.line)&&decide (v.2.1.length<20))&&(kw.arg.any λkn=>Γ.mq[j]?==Z9 (u.2.1,kn))&&bD Γ o u.1&&(lR Γ as v.2.1&& !v.2.1.isEmpty)&&bD Γ k kw.value
 |Γ,.d4 p q r s a b c d,e=>(z9 e).any λv=>(qT v.1).any λk=>(qT v.2).any λx=>(AV Γ.g p k.1&&AV Γ.g q k.2.1&&AV Γ.g r k.2.2.1&&AV Γ.g s k.2.2.2)&&bD Γ a x.1&&bD Γ b x.2.1&&bD Γ c x.2.2.1&&bD Γ d x.2.2.2
 |Γ,.AR a,e=>(jM e).any λv=>(v.1==("list":Str))&&dW Γ.g v.1&&(bI v.2).any λy=>!isStar y&&bD Γ a y
 |Γ,.lit o,e=>Γ.g.cm&&(jM e).any λv=>(v.1==("list":Str))&&dW Γ.g v.1&&(bI v.2).any λy=>(sJ y).any λm=>((m.2.1==("items":Str))&&z0w m.1&&m.2.2.2)&&bD Γ o m.1&&m.2.2.1.isEmpty
 |Γ,.lc nt js N' t en it c x,e=>Γ.g.cm&&(CM e).any λv=>(bI v.2.1).any λg=>((g.is_async==0)&&pP Γ.g.N Γ.g.sc v.2.2 N' nt js&&decide N'.Nodup&&sH g.iter)&&(if en then isTup g.target&&(jM g.iter).any λu=>(u.1==("enumerate":Str))&&dW Γ.g u.1&&(bI u.2).any λy=>!isStar y&&bD Γ it y else bD Γ it g.iter)&&qz (AU Γ v.2.2 N').g t g.target&&(match g.ifs with| []=>S0 c| [y]=>mO (AU Γ v.2.2 N') c y|_=>Z6)&&bD (AU Γ v.2.2 N') x v.1
 |_,_,_=>Z6
def lR:Gw->W->List Expr->Bool
 |Γ,.nil,es=>es.isEmpty
 |Γ,.cons a r,es=>match es with|e::es=>!isStar e&&bD Γ a e&&lR Γ r es|_=>Z6
 |_,_,_=>Z6
def mO:Gw->W->Expr->Bool
 |Γ,.tp c,e=>eK Γ.g c e
 |Γ,.tc op a b,e=>(nN e).any λv=>decide (v.2.1=[op])&&(bI v.2.2).any λr=>z4r op&& !(d6 op r)&&bD Γ a v.1&&bD Γ b r
 |Γ,.ti ng a,e=>(nN e).any λv=>decide (v.2.1=[if ng then .IsNot else .Is])&&(bI v.2.2).any λr=>decide (fJ r=Z9 .none)&&bD Γ a v.1
 |Γ,.jV a,e=>plainT e&&bD Γ a e
 |Γ,.not a,e=>(xY e).any λv=>decide (v.1=.Not)&&mO Γ a v.2
 |Γ,.iM a b,e=>(sI e).any λv=>decide (v.1=.And)&&sM (λx=>mO Γ a x) (λx=>mO Γ b x) .And v.2.2 v.2.1
 |Γ,.wd a b,e=>(sI e).any λv=>decide (v.1=.Or)&&sM (λx=>mO Γ a x) (λx=>mO Γ b x) .Or v.2.2 v.2.1
 |Γ,.AS op uU a b c,e=>(nN e).any λv=>decide (v.2.1=[op,uU])&&(pZ v.2.2).any λr=>z4r op&&z4r uU&& !(lastMarks [op,uU] [r.1,r.2])&&bD Γ a v.1&&(bD Γ b r.1&&bD Γ c r.2)
 |_,_,_=>Z6
end
structure Zok (Γ:Gw)(Z:Wc)(CX:CXT)(P:cu)(w:World)(K:Z5)(mg:Str->Option Value)(base:Heap)(r:Nat):Prop where
 kk:Z.K=K
 mm:Z.mg=mg
 fn:∀(j:Nat) x n,Γ.fn[j]?=Z9 (x,n)->∃sp f fd ps k,Z.fn[j]?=Z9 sp/\k<=r/\FnOk P w K mg base CX k f fd ps sp/\mg x=Z9 (.ref f)/\Z2 K (.ref f)=Z7/\Binds K fd ps []
 me:∀(j:Nat) m n,Γ.me[j]?=Z9 (m,n)->∃C sp f fd ps k,Z.me[j]?=Z9 (C,m,sp)/\k<=r/\FnOk P w K mg base CX k f fd ps sp/\Cls K C/\Meth K C m f/\Binds K fd ps []
 cl:∀(j:Nat) x n,Γ.cl[j]?=Z9 (x,n)->∃C sp f fd ps k,Z.cl[j]?=Z9 (C,sp)/\k+1<=r/\FnOk P w K mg base CX k f fd ps sp/\Mk K C f/\mg x=Z9 (.ref C)/\Binds K fd ps []
 gi:∀(j:Nat) x,Γ.gi[j]?=Z9 x->∃n t,Z.gi[j]?=Z9 n/\mg x=Z9 (.int n t)
 hf:∀(j:Nat) x n,Γ.hf[j]?=Z9 (x,n)->∃sp f fd ps k,Z.hf[j]?=Z9 (f,sp)/\k<=r/\FnOk P w K mg base CX k f fd ps sp/\mg x=Z9 (.ref f)/\Z2 K (.ref f)=Z7/\Binds K fd ps []
 md:∀(j:Nat) m n,Γ.md[j]?=Z9 (m,n)->∃C sp f fd ps k,Z.md[j]?=Z9 (C,m,sp)/\k<=r/\FnOk P w K mg base CX k f fd ps sp/\Cls K C/\Meth K C m f/\Binds K fd ps [.none]
 mq:∀(j:Nat) m kn,Γ.mq[j]?=Z9 (m,kn)->∃C sp f fd ps k,Z.mq[j]?=Z9 (C,m,sp)/\k<=r/\FnOk P w K mg base CX k f fd ps sp/\Cls K C/\Meth K C m f/\KBinds K fd ps [kn] kwG kwG
structure Wok (Γ:Gw)(Z:Wc)(CX:CXT)(X:Cx)(r:Nat):Prop extends Zok Γ Z CX X.prog X.w X.K X.mg X.base r where
 ck:Cok Γ.g Z.Κ Z.Φ X r
 room:Γ.g.cm=Z7->Room r X.A
 px:z2c CX X Z.E
 xf:∀f,Γ.xf=Z9 f->∃v,Z.xf=Z9 v/\∀n c,Γ.g.xc=Z9 (n,c)->∀p q,z0w (.Name n p)=Z7->PE X (.Attribute (.Name n p) f q) (λ_ H Q=>Q v H)
 JX:∀outer H s e s',¬CX outer H s (λ_ _ _=>False) e s'
section
variable {X:Cx}
theorem z62 {C:Addr}(he:PE X o ta)(c:Cls X.K C)(hm:Meth X.K C m f)
  (EE:z0w o=Z7) (DJ:(es.all λe=>!isStar e)=Z7) (hl:es.length<20) (yG:(apos.endLine==cpos.line)=Z7)
  (go:∀pins s σ H Q a,Inv X pins σ H s->(t σ H λvs H2=>sp (.ref a::(vs++dvs)) H2 Q E)->wpAny (model X.prog X.w) X.A (callWith cpos (.ref f) [.ref a] (jn cpos (dj es X.env)) (ou cpos (k8 [] X.env))) (EP X pins σ Q) X.xe s):
  PE X (.Call (.Attribute o m apos) es [] cpos) (kG C m sp dvs E ta t):=by
 intro pins s σ H Q I h;rw[arm_eval_Call,nB EE];refine ah (aM (he pins s σ H _ I h) ?_)
 rintro u s1 ⟨x,H1,I1,rx,a,dx,fs,ex,ea,l,q⟩
 subst ex;obtain rfl:u=ZS a:=rx;refine ah (il ?_);have yH:pb (es.length+([]:List nr).length) (jn cpos (dj es X.env)) (ou cpos (k8 [] X.env))=true:=z9u DJ hl;unfold methodCall;rw[yH];refine ah (gu (z5p I1 ea c hm l ?_));exact ah (wpAny_of_eq (by unfold qb;simp[yG]) (go pins s1 σ H1 Q a I1 q))
variable {CX:CXT}{k:Nat}{f C:Addr}{fd:d5}{ps:List Str}{sp:Sp}{E:XK}{m:Str}{apos cpos:Pos}{o e:Expr}{es:List Expr}{ta:TE}{t:TA}
theorem zfl (l:PE X o ta)(c:Cls X.K C)(hm:Meth X.K C m f)(F:FnOk X.prog X.w X.K X.mg X.base CX k f fd ps sp)(hr:Room k X.A)(n:Binds X.K fd ps [])(p:z2c CX X E)(u:PA X (e::es) t)
  (h:z0w o=Z7) (b:((e::es).all λe=>!isStar e)=Z7) (v:(e::es).length<20) (d:(apos.endLine==cpos.line)=Z7):
  PE X (.Call (.Attribute o m apos) (e::es) [] cpos) (kG C m sp [] E ta t):=
 z62 l c hm h b v d λg s x H Q a I q=>by rw[db,cg]at b;refine W.callWith_K I.ok.mod.rT hm.kp (aM (u cpos g s x H _ I q) λz B ⟨i,D,j,r,y⟩=>⟨j.cL,?_⟩) (eQ (by simpa using b.1)) (mJ b.2);exact z9r (vs:=.ref a::i) F hr n .nil p j (.cons rfl r) y
theorem zgs (l:PE X o ta)(c:Cls X.K C)(hm:Meth X.K C m f)(F:FnOk X.prog X.w X.K X.mg X.base CX k f fd ps sp)(hr:Room k X.A)(n:Binds X.K fd ps [.none])(p:z2c CX X E)(u:PA X (e::es) t)
  (h:z0w o=Z7) (b:((e::es).all λe=>!isStar e)=Z7) (v:(e::es).length<20) (d:(apos.endLine==cpos.line)=Z7):
  PE X (.Call (.Attribute o m apos) (e::es) [] cpos) (kG C m sp [.aO] E ta t):=
 z62 l c hm h b v d λg s x H Q a I q=>by rw[db,cg]at b;refine W.callWith_K I.ok.mod.rT hm.kp (aM (u cpos g s x H _ I q) λz B ⟨i,D,j,r,y⟩=>⟨j.cL,?_⟩) (eQ (by simpa using b.1)) (mJ b.2);exact z9r (vs:=.ref a::i) (dvs:=[.aO]) F hr n (.cons rfl .nil) p j (.cons rfl r) y
theorem zhf (M:PE X o ta)(c:Cls X.K C)(hm:Meth X.K C m f)(F:FnOk X.prog X.w X.K X.mg X.base CX k f fd ps sp)(hr:Room k X.A)(N:KBinds X.K fd ps [p] kwG kwG)(O:z2c CX X E)(P:PA X (e::es) t)(R:PE X v tk)
  (y:z0w o=Z7) (d:((e::es).all λe=>!isStar e)=Z7) (hl:(e::es).length<20) (g:(apos.endLine==cpos.line)=Z7):
  PE X (.Call (.Attribute o m apos) (e::es) [⟨Z9 p,v,kp⟩] cpos) (yF C m sp E ta t tk):=by
 intro b s z H Q I h;rw[arm_eval_Call,nB y];refine ah (aM (M b s z H _ I h) ?_)
 rintro u S ⟨x,T,B,U,a,dx,fs,ex,V,l,q⟩
 subst ex;obtain rfl:u=ZS a:=U;refine ah (il ?_);have i:pb ((e::es).length+ [(⟨Z9 p,v,kp⟩:nr)].length) (jn cpos (dj (e::es) X.env)) (ou cpos (k8 [⟨Z9 p,v,kp⟩] X.env))=true:=by unfold pb;rw[Dq d];show(Z7&&Z7&&decide ((e::es).length+1+1<30))=Z7;rw[ua (by omega)];rfl
 have j:qb Z7 o X.env apos cpos=pure cpos:=by unfold qb;simp[g]
 unfold methodCall;rw[i];refine ah (gu (z5p B V c hm l ?_));refine ah (wpAny_of_eq j ?_);have n:=d;rw[db,cg]at d;refine W.callWith_KW B.ok.mod.rT hm.kp rfl (aM (P cpos b S z T _ B q) ?_) (by rw[Bool.or_eq_false_iff];exact⟨mJ n,rfl⟩) (eQ (by simpa using d.1))
 rintro us Y ⟨D,H2,I2,r,q2⟩
 refine aM (N6 R N5 cpos b Y z H2 (λG J=>sp (kwG (.ref a::D) G) J Q E) I2 q2) λws s3 ⟨G,J,L,rz,q3⟩=>⟨L.cL,?_⟩;exact zl1 (vs:=.ref a::D) F hr N O L (.cons rfl r) rz q3
theorem zeh (g:PE X o ta)(c:Cls X.K C)(hm:Meth X.K C m f)(F:FnOk X.prog X.w X.K X.mg X.base CX k f fd ps sp)(hr:Room k X.A)(h:Binds X.K fd ps [])(i:z2c CX X E)
  (d:z0w o=Z7) (b:(apos.endLine==cpos.line)=Z7):
  PE X (.Call (.Attribute o m apos) [] [] cpos) (kG C m sp [] E ta fF):=
 z62 g c hm d rfl dc b λe s j H Q a I q=>W.callWith_K0 I.cL hm.kp (z9r (vs:=[.ref a]) F hr h .nil i I (.cons rfl .nil) q)
end
section
variable {Γ:Gw}{Z:Wc}{CX:CXT}{X:Cx}{r:Nat}
structure We (w:W):Prop where
 E:∀(Γ:Gw) (Z:Wc) (CX:CXT) (X:Cx) (r:Nat) (e:Expr),Wok Γ Z CX X r->bD Γ w e=Z7->PE X e (wE Z w)
 A:∀(Γ:Gw) (Z:Wc) (CX:CXT) (X:Cx) (r:Nat) (es:List Expr),Wok Γ Z CX X r->lR Γ w es=Z7->PA X es (wA Z w)
 T:∀(Γ:Gw) (Z:Wc) (CX:CXT) (X:Cx) (r:Nat) (e:Expr),Wok Γ Z CX X r->mO Γ w e=Z7->PT X e (wT Z w)/\((∃o l p,e=.BoolOp o l p)->PW X e (wT Z w))
theorem We.x (h:∀Γ Z CX X r e,Wok Γ Z CX X r->bD Γ w e=Z7->PE X e (wE Z w))(a:∀Γ es,lR Γ w es=Z6)(b:∀Γ e,mO Γ w e=Z6):We w where
 E:=h
 A:=λΓ Z CX X r es k z=>ff (a Γ es) z
 T:=λΓ Z CX X r e k z=>ff (b Γ e) z
theorem We.t (h:∀Γ Z CX X r e,Wok Γ Z CX X r->mO Γ w e=Z7->PT X e (wT Z w)/\((∃o l p,e=.BoolOp o l p)->PW X e (wT Z w)))(a:∀Γ e,bD Γ w e=Z6)(b:∀Γ es,lR Γ w es=Z6):We w where
 E:=λΓ Z CX X r e k z=>ff (a Γ e) z
 A:=λΓ Z CX X r es k z=>ff (b Γ es) z
 T:=h
theorem yI {w:W}:∀{d:List Expr},lR Γ w d=Z7->(d.all λe=>!isStar e)=true:=by
 induction w with
 |nil=>intro d h;cases fL h;rfl
 |cons a r _ i=>
  intro d h;cases d with
  |nil=>cases h
  |cons e d=>obtain⟨b,_,c⟩:=aU h;rw[db,b,i c];rfl
 |_=>exact λh=>ff rfl h
theorem Wok.rm (k:Wok Γ Z CX X r)(hc:Γ.g.cm=Z7)(h:j<=r):Room j X.A:=(k.room hc).mono h
theorem eqB {c:Type} [BEq c] [LawfulBEq c] {a b:c}(h:(a==b)=Z7):a=b:=eq_of_beq h
theorem JY (h:((nN e).any λv=>decide (v.2.1=[c])&&(bI v.2.2).any λr=>z4r c&& !(d6 c r)&&bD Γ a v.1&&bD Γ b r)=Z7):∃l r p,e=.Compare l [c] [r] p/\z4r c=Z7/\d6 c r=Z6/\bD Γ a l=Z7/\bD Γ b r=true:=by obtain⟨⟨l,o,rs⟩,g,i⟩:=aK h;obtain⟨p,rfl⟩:=nX g;obtain⟨j,d⟩:=aE i;obtain⟨r,hr,f⟩:=aK d;cases t8 j;cases fR hr;obtain⟨d,f,k,m⟩:=bL f;exact⟨l,r,p,rfl,d,cG f,k,m⟩
theorem JZ {d:Bool}(h:((nN e).any λv=>decide (v.2.1=[if d then .IsNot else .Is])&&(bI v.2.2).any λr=>decide (fJ r=Z9 .none)&&bD Γ a v.1)=Z7):∃l j b p,e=.Compare l [if d then .IsNot else .Is] [.Constant .none j b] p/\bD Γ a l=true:=by obtain⟨⟨l,o,rs⟩,f,g⟩:=aK h;obtain⟨p,rfl⟩:=nX f;obtain⟨i,k⟩:=aE g;obtain⟨r,hr,c⟩:=aK k;cases t8 i;cases fR hr;obtain⟨c,m⟩:=aE c;obtain⟨j,b,rfl⟩:=uJ (t8 c);exact⟨l,j,b,p,rfl,m⟩
theorem EF (h:bD Γ (.cC o j as) e=Z7):Γ.g.cm=Z7/\∃b m a es c,e=.Call (.Attribute b m a) es [] c/\(a.endLine==c.line)=Z7/\z0w b=Z7/\es.length<20/\Γ.me[j]?=Z9 (m,es.length)/\bD Γ o b=Z7/\lR Γ as es=true:=by obtain⟨d,h⟩:=aE h;obtain⟨⟨x,n,es,b⟩,f,i⟩:=aK h;obtain⟨a,c,rfl,k⟩:=jS f;obtain⟨h0,l,p,q⟩:=bL i;obtain⟨r,s,t⟩:=aU h0;exact⟨d,x,n,a,es,c,rfl,k.symm.trans s,r,t8 t,eqB l,p,q⟩
theorem S1 (h:z2v i=Z7):uj i:=λo v=>by cases i<;>first|rfl|cases h
theorem EG (u:We it)(F:We c)(G:We x):∀Γ Z CX X r e,Wok Γ Z CX X r->bD Γ (.lc J L g t en it c x) e=Z7->PE X e (wE Z (.lc J L g t en it c x)):=by
 intro Γ Z CX X r e k h;obtain⟨n,h⟩:=aE h;obtain⟨⟨el,gs,a⟩,M,i⟩:=aK h;obtain⟨pos,rfl⟩:=yl M;obtain⟨⟨v,j,m,ka⟩,N,i⟩:=aK i;cases fR N;obtain⟨h0,d,O,o,i⟩:=dF i;obtain⟨P,Q,R,S⟩:=bL h0;cases uc P;have w:=HR k.ck.hN k.ck.hs Q;have A:=λC b s H=>k.ck.blk w.kind (t8 R) C b s H;have B:∀C b s H,Wok (AU Γ a g) {Z with E:=λ_ _ _=>False,xf:=Z8} CX (blk X a g C b s H) r:=λC b s H=>⟨⟨k.kk,k.mm,k.fn,k.me,k.cl,k.gi,k.hf,k.md,k.mq⟩,A C b s H,k.room,λD σ H s e s' I z=>(k.JX _ _ _ _ _ z).elim,λf z=>(by cases z),k.JX⟩
 have U:PI X v j (AN X.K en (wE Z it)):=by
  cases en with
  |false=>exact SV (u.E Γ Z CX X r _ k d)
  |true=>obtain⟨V,d⟩:=aE d;obtain⟨⟨f,es⟩,hf,d⟩:=aK d;obtain⟨_,_,rfl⟩:=jR hf;obtain⟨p,W,Y⟩:=aU d;obtain⟨y,hy,u5⟩:=aK Y;cases fR hy;obtain⟨u6,u4⟩:=aE u5;have p:=eqB p;subst p;obtain⟨_,_,_,rfl⟩:=DT V;obtain⟨g1,g2,g3,g4⟩:=k.ck.blt W;exact SW g2 g1 (cG u6) (u.E Γ Z CX X r _ k u4)
 have ht:∀C b s H,pQ (blk X a g C b s H) m (wT {Z with E:=λ_ _ _=>False,xf:=Z8} c):=λC b s H=>by
  rcases m with _|⟨y,_|⟨z,l⟩⟩
  .have :c=.nil:=by cases c<;>first|rfl|cases o
   subst this;exact HS
  .exact HU (F.T _ _ CX _ r _ (B C b s H) o).1
  .cases o
 have q:∀C b s H,PG (blk X a g C b s H) v (tDG X.K t):=λC b s H=>vZ (A C b s H) O;have hh:=z9w (pos:=pos) (k.ck.calm n) w U q ht (λC b s H=>G.E _ _ CX _ r _ (B C b s H) i) (wa S _);rw[<-k.kk]at hh;exact hh
theorem cR (w:W):We w:=by
 induction w with
 |aX c=>exact We.x (λΓ Z CX X r e k h=>by show PE X e (tD Z.K (aL Z.Κ Z.Φ c));rw[k.kk];exact(all c).E Γ.g X r e k.ck h) (λ_ _=>rfl) λ_ _=>rfl
 |raw i=>exact We.x (λΓ Z CX X r e k h=>by obtain⟨x,p,rfl,h⟩:=kN h;obtain⟨u,B,D,I⟩:=k.ck.aS h;exact wY u B D I) (λ_ _=>rfl) λ_ _=>rfl
 |cmp op a b G N=>exact We.x (λΓ Z CX X r e k h=>by obtain⟨_,_,_,rfl,B,D,I,O⟩:=JY h;show PE X _ (kF (jN Z.K (mB (cmpD _))) _ _);rw[k.kk];exact Hb (vT k.ck.hu _ B) (G.E Γ Z CX X r _ k I) (N.E Γ Z CX X r _ k O) D) (λ_ _=>rfl) λ_ _=>rfl
 |iY ng a G=>exact We.x (λΓ Z CX X r e k h=>by
  obtain⟨_,_,_,_,rfl,B⟩:=JZ h;have ha:=G.E Γ Z CX X r _ k B;cases ng with
  |true=>exact zO (zN ha)
  |false=>exact zO (zM ha)) (λ_ _=>rfl) λ_ _=>rfl
 |and a b G N=>exact We.x (λΓ Z CX X r e k h=>by
  obtain⟨⟨o,xs,p⟩,L,J⟩:=aK h;cases jQ L;obtain⟨u,B⟩:=aE J;cases t8 u;rcases uM B with⟨x,y,rfl,D,I⟩|⟨x,y,z,t,rfl,D,I⟩
  .exact BV (G.E Γ Z CX X r _ k D) (BU (N.E Γ Z CX X r _ k I))
  .exact BV (G.E Γ Z CX X r _ k D) (N.E Γ Z CX X r _ k I)) (λ_ _=>rfl) λ_ _=>rfl
 |yE c a b ic G N=>exact We.x (λΓ Z CX X r e k h=>by obtain⟨v,L,J⟩:=aK h;obtain⟨p,rfl⟩:=Je L;obtain⟨u,B,D⟩:=aU J;exact G1 (ic.T Γ Z CX X r _ k u).1 (G.E Γ Z CX X r _ k B) (N.E Γ Z CX X r _ k D)) (λ_ _=>rfl) λ_ _=>rfl
 |tup xs G=>exact We.x (λΓ Z CX X r e k h=>by obtain⟨v,L,J⟩:=aK h;obtain⟨_,_,rfl⟩:=Ar L;exact Hj (G.A Γ Z CX X r _ k J)) (λ_ _=>rfl) λ_ _=>rfl
 |lst xs G=>exact We.x (λΓ Z CX X r e k h=>by obtain⟨v,L,J⟩:=aK h;obtain⟨_,rfl⟩:=Jf L;exact Hk (G.A Γ Z CX X r _ k J)) (λ_ _=>rfl) λ_ _=>rfl
 |hG=>exact We.x (λΓ Z CX X r e k h=>by obtain⟨⟨a,b⟩,L,J⟩:=aK h;obtain⟨_,rfl⟩:=uK L;obtain⟨u,B⟩:=aE J;cases fL u;cases fL B;exact Hy) (λ_ _=>rfl) λ_ _=>rfl
 |ix a b G N=>exact We.x (λΓ Z CX X r e k h=>by obtain⟨v,L,J⟩:=aK h;obtain⟨_,rfl⟩:=vY L;obtain⟨u,B,D⟩:=aU J;show PE X _ (kF (jO Z.K) _ _);rw[k.kk];exact Cf (Ip k.ck.hu) (G.E Γ Z CX X r _ k B) (N.E Γ Z CX X r _ k D) (Dh u)) (λ_ _=>rfl) λ_ _=>rfl
 |uT a b G N=>exact We.x (λΓ Z CX X r e k h=>by obtain⟨v,L,J⟩:=aK h;obtain⟨_,rfl⟩:=vY L;obtain⟨u,B,D⟩:=aU J;exact N9 (j0 (pv (by decide) _) k.ck.hu) (G.E Γ Z CX X r _ k B) (N.E Γ Z CX X r _ k D) (S1 u)) (λ_ _=>rfl) λ_ _=>rfl
 |len a G=>exact We.x (λΓ Z CX X r e k h=>by obtain⟨⟨x,es⟩,L,J⟩:=aK h;obtain⟨_,_,rfl⟩:=jR L;obtain⟨u,B,D⟩:=aU J;obtain⟨y,hy,I⟩:=aK D;cases fR hy;obtain⟨I,O⟩:=aE I;have u:x=("len":Str):=eqB u;subst u;obtain⟨g1,g2,g3,g4⟩:=k.ck.blt B;show PE X _ (mX (z72 Z.K (iZ "len")) _);rw[k.kk];exact zX Ir g2 (show dk "len"=_ by decide+kernel) (eU (G.E Γ Z CX X r _ k O) lD (cG I)) (by rw[db,I];rfl) g1 g4 g3) (λ_ _=>rfl) λ_ _=>rfl
 |jA o f io=>exact We.x (λΓ Z CX X r e k h=>by obtain⟨⟨x,n,p⟩,L,J⟩:=aK h;cases lO L;obtain⟨u,B,D⟩:=aU J;have u:n=f:=eqB u;subst u;show PE X _ (ud Z.K _ _);rw[k.kk];exact N1 (io.E Γ Z CX X r _ k D) (nB B)) (λ_ _=>rfl) λ_ _=>rfl
 |gO j as G=>exact We.x (λΓ Z CX X r e k h=>by
  obtain⟨⟨x,es⟩,L,J⟩:=aK h;obtain⟨_,_,rfl⟩:=jR L;obtain⟨u,B,D,I⟩:=bL J;obtain⟨M,I⟩:=aE I;obtain⟨y,es,rfl⟩:=qF I;obtain⟨g1,g2⟩:=k.ck.gl u;obtain⟨R,f,fd,ps,n,c1,V,Y,c4,c5,c6⟩:=k.fn j _ _ (eqB B);obtain⟨s1,s2⟩:=db.symm.trans (yI D) |> au.mp;have S:wE Z (.gO j as)=oZ R [] Z.E (wA Z as):=by show(match Z.fn[j]? with|some R=>oZ R [] Z.E (wA Z as)|none=>fN)=_;rw[c1]
  rw[S];exact ze8 Y (k.rm M V) g1 c4 c5 c6 .nil k.px (G.A Γ Z CX X r _ k D) g2 (eQ (cG s1)) (mJ s2)) (λ_ _=>rfl) λ_ _=>rfl
 |cC o j as io G=>exact We.x (λΓ Z CX X r e k h=>by
  obtain⟨M,b,m,ap,es,cp,rfl,u,B,D,I,O,P⟩:=EF h;obtain⟨C,R,f,fd,ps,n,c1,V,Y,c4,c5,c6⟩:=k.me j _ _ I;have S:wE Z (.cC o j as)=kG C m R [] Z.E (wE Z o) (wA Z as):=by show(match Z.me[j]? with|some r=>kG r.1 r.2.1 r.2.2 [] Z.E (wE Z o) (wA Z as)|none=>fN)=_;rw[c1]
  rw[S];have ho:=io.E Γ Z CX X r _ k O;have ha:=G.A Γ Z CX X r _ k P;have hs:=yI P;cases es with
  |nil=>
   refine PE.imp (zeh ho c4 c5 Y (k.rm M V) c6 k.px B u) λσ H Q q=>?_;have:wA Z as=fF:=by cases as<;>first|rfl|(cases P;done)
   rw[this]at q;exact q
  |cons y es=>exact zfl ho c4 c5 Y (k.rm M V) c6 k.px ha B hs D u) (λ_ _=>rfl) λ_ _=>rfl
 |mk j as G=>exact We.x (λΓ Z CX X r e k h=>by
  obtain⟨⟨x,es⟩,L,J⟩:=aK h;obtain⟨_,_,rfl⟩:=jR L;obtain⟨u,B,D,I⟩:=bL J;obtain⟨M,I⟩:=aE I;obtain⟨y,es,rfl⟩:=qF I;obtain⟨g1,g2⟩:=k.ck.gl u;obtain⟨C,R,f,fd,ps,n,c1,V,Y,c4,c5,c6⟩:=k.cl j _ _ (eqB B);obtain⟨s1,s2⟩:=db.symm.trans (yI D) |> au.mp;have S:wE Z (.mk j as)=xv C R [] Z.E (wA Z as):=by show(match Z.cl[j]? with|some r=>xv r.1 r.2 [] Z.E (wA Z as)|none=>fN)=_;rw[c1]
  rw[S];exact zlh c4 Y ((k.room M).mono V) g1 c5 c6 .nil k.px (G.A Γ Z CX X r _ k D) g2 (eQ (cG s1)) (mJ s2)) (λ_ _=>rfl) λ_ _=>rfl
 |tp c=>exact We.t (λΓ Z CX X r e k h=>by show PT X e (eD Z.K (eA Z.Κ Z.Φ c))/\(_->PW X e (eD Z.K (eA Z.Κ Z.Φ c)));rw[k.kk];exact(all c).T Γ.g X r e k.ck h) (λ_ _=>rfl) λ_ _=>rfl
 |tc op a b G N=>exact We.t (λΓ Z CX X r e k h=>by obtain⟨_,_,_,rfl,B,D,I,O⟩:=JY h;refine⟨?_,λ⟨_,_,_,z⟩=>by cases z⟩;show PT X _ (rY (kF (jN Z.K (mB (cmpD _))) _ _));rw[k.kk];exact Hc (vT k.ck.hu _ B) (G.E Γ Z CX X r _ k I) (N.E Γ Z CX X r _ k O) D) (λ_ _=>rfl) λ_ _=>rfl
 |ti ng a G=>exact We.t (λΓ Z CX X r e k h=>by
  obtain⟨_,_,_,_,rfl,B⟩:=JZ h;have ha:=G.E Γ Z CX X r _ k B;refine⟨?_,λ⟨_,_,_,z⟩=>by cases z⟩;cases ng with
  |true=>exact zP (zN ha)
  |false=>exact zP (zM ha)) (λ_ _=>rfl) λ_ _=>rfl
 |jV a G=>exact We.t (λΓ Z CX X r e k h=>by have h:(plainT e&&bD Γ a e)=true:=h;obtain⟨u,B⟩:=aE h;refine⟨?_,λ⟨_,_,_,z⟩=>by subst z;cases u⟩;show PT X _ (ED Z.K _);rw[k.kk];exact za4 (G.E Γ Z CX X r _ k B) (Jg u _)) (λ_ _=>rfl) λ_ _=>rfl
 |not a G=>exact We.t (λΓ Z CX X r e k h=>by obtain⟨⟨o,x⟩,L,J⟩:=aK h;obtain⟨p,rfl⟩:=qG L;obtain⟨u,B⟩:=aE J;cases t8 u;exact⟨GY (G.T Γ Z CX X r _ k B).1,λ⟨_,_,_,z⟩=>by cases z⟩) (λ_ _=>rfl) λ_ _=>rfl
 |iM a b G N=>exact We.t (λΓ Z CX X r e k h=>by
  obtain⟨⟨o,xs,p⟩,L,J⟩:=aK h;cases jQ L;obtain⟨u,B⟩:=aE J;cases t8 u;rcases uM B with⟨x,y,rfl,D,I⟩|⟨x,y,z,t,rfl,D,I⟩
  .have w:=BP (pos:=p) (G.T Γ Z CX X r _ k D).1 (GW (N.T Γ Z CX X r _ k I).1);exact⟨w.pt,λ_=>w⟩
  .have w:=BP (pos:=p) (G.T Γ Z CX X r _ k D).1 ((N.T Γ Z CX X r _ k I).2 ⟨_,_,_,rfl⟩);exact⟨w.pt,λ_=>w⟩) (λ_ _=>rfl) λ_ _=>rfl
 |wd a b G N=>exact We.t (λΓ Z CX X r e k h=>by
  obtain⟨⟨o,xs,p⟩,L,J⟩:=aK h;cases jQ L;obtain⟨u,B⟩:=aE J;cases t8 u;rcases uM B with⟨x,y,rfl,D,I⟩|⟨x,y,z,t,rfl,D,I⟩
  .have w:=BQ (pos:=p) (G.T Γ Z CX X r _ k D).1 (GX (N.T Γ Z CX X r _ k I).1);exact⟨w.pt,λ_=>w⟩
  .have w:=BQ (pos:=p) (G.T Γ Z CX X r _ k D).1 ((N.T Γ Z CX X r _ k I).2 ⟨_,_,_,rfl⟩);exact⟨w.pt,λ_=>w⟩) (λ_ _=>rfl) λ_ _=>rfl
 |kA f=>exact We.x (λΓ Z CX X r e k h=>by
  obtain⟨⟨x,n,p⟩,L,J⟩:=aK h;cases lO L;obtain⟨u,h0,B,D⟩:=bL J;have u:n=f:=eqB u;subst u;obtain⟨y,q,rfl,I⟩:=kN B;obtain⟨⟨m,c⟩,O,P⟩:=aK I;have P:m=y:=eqB P;subst P;obtain⟨v,e1,e2⟩:=k.xf n (eqB D);have S:wE Z (.kA n)=λ_ H Q=>Q v H:=by show(match Z.xf with|some v=>(λ_ H Q=>Q v H:TE)|none=>fN)=_;rw[e1]
  rw[S];exact e2 m c O _ _ h0) (λ_ _=>rfl) λ_ _=>rfl
 |qQ a b G N=>exact We.x (λΓ Z CX X r e k h=>by obtain⟨v,L,J⟩:=aK h;obtain⟨_,rfl⟩:=vY L;obtain⟨u,B,D⟩:=aU J;show PE X _ (kF (xE Z.K) _ _);rw[k.kk];exact Cf HI (G.E Γ Z CX X r _ k B) (N.E Γ Z CX X r _ k D) (Dh u)) (λ_ _=>rfl) λ_ _=>rfl
 |qR o j as io G=>exact We.x (λΓ Z CX X r e k h=>by
  obtain⟨M,h⟩:=aE h;obtain⟨⟨b,m,es,l⟩,L,J⟩:=aK h;obtain⟨ap,cp,rfl,hb⟩:=jS L;obtain⟨h0,P,h7,h8⟩:=bL J;obtain⟨u,B,D⟩:=aU h0;obtain⟨h8,U⟩:=aE h8;obtain⟨C,R,f,fd,ps,n,c1,V,Y,c4,c5,c6⟩:=k.md j _ _ (eqB P);have S:wE Z (.qR o j as)=kG C m R [.aO] Z.E (wE Z o) (wA Z as):=by show(match Z.md[j]? with|some r=>kG r.1 r.2.1 r.2.2 [.aO] Z.E (wE Z o) (wA Z as)|none=>fN)=_;rw[c1]
  rw[S];obtain⟨y,es,rfl⟩:=qF U;exact zgs (io.E Γ Z CX X r _ k h7) c4 c5 Y (k.rm M V) c6 k.px (G.A Γ Z CX X r _ k h8) u (yI h8) (t8 D) (hb.symm.trans B)) (λ_ _=>rfl) λ_ _=>rfl
 |wg o j as kv io G ik=>exact We.x (λΓ Z CX X r e k h=>by
  obtain⟨M,h⟩:=aE h;obtain⟨⟨f0,es,Hm,cp⟩,L,J⟩:=aK h;cases uL L;obtain⟨⟨b,m,ap⟩,hu,h8⟩:=aK J;cases lO hu;obtain⟨⟨ka,ke,kp⟩,hw,h7⟩:=aK h8;cases fR hw;obtain⟨h0,u,B,D,I⟩:=dF h7;obtain⟨a1,a2,a3⟩:=aU h0;obtain⟨kn,EH,O⟩:=aK u;have EH:ka=Z9 kn:=EH;subst EH;obtain⟨D,U⟩:=aE D;obtain⟨C,R,f,fd,ps,n,c1,V,Y,c4,c5,c6⟩:=k.mq j _ _ (eqB O);have S:wE Z (.wg o j as kv)=yF C m R Z.E (wE Z o) (wA Z as) (wE Z kv):=by show(match Z.mq[j]? with|some r=>yF r.1 r.2.1 r.2.2 Z.E (wE Z o) (wA Z as) (wE Z kv)|none=>fN)=_;rw[c1]
  rw[S];obtain⟨y,es,rfl⟩:=qF U;exact zhf (io.E Γ Z CX X r _ k B) c4 c5 Y (k.rm M V) c6 k.px (G.A Γ Z CX X r _ k D) (ik.E Γ Z CX X r _ k I) a1 (yI D) (t8 a3) a2) (λ_ _=>rfl) λ_ _=>rfl
 |AS op uU a b c G N ic=>exact We.t (λΓ Z CX X r e k h=>by obtain⟨⟨l,o,rs⟩,L,J⟩:=aK h;obtain⟨p,rfl⟩:=nX L;obtain⟨u,B⟩:=aE J;obtain⟨⟨r1,r2⟩,hr,D⟩:=aK B;cases t8 u;cases DK hr;obtain⟨B,D,I,O,P⟩:=dF D;obtain⟨P,h7⟩:=aE P;refine⟨?_,λ⟨_,_,_,z⟩=>by cases z⟩;show PT X _ (rY (B8 (jN Z.K (mB (cmpD _))) (jN Z.K (mB (cmpD _))) _ _ _));rw[k.kk];exact zfp (vT k.ck.hu _ B) (vT k.ck.hu _ D) (G.E Γ Z CX X r _ k O) (N.E Γ Z CX X r _ k P) (ic.E Γ Z CX X r _ k h7) (cG I)) (λ_ _=>rfl) λ_ _=>rfl
 |d4 p q r s a b c d G N ic S2=>exact We.x (λΓ Z CX X r e k h=>by
  obtain⟨⟨ks,vs⟩,L,J⟩:=aK h;obtain⟨_,rfl⟩:=uK L;obtain⟨⟨k1,k2,k3,k4⟩,hk,J⟩:=aK J;obtain⟨⟨v1,v2,v3,v4⟩,hx,J⟩:=aK J;cases JW hk;cases JW hx;obtain⟨h0,u,B,D,I⟩:=dF J;obtain⟨g1,g2,g3,g4⟩:=bL h0;obtain⟨y1,e1,g1⟩:=aK g1;obtain⟨y2,e2,g2⟩:=aK g2;obtain⟨y3,e3,g3⟩:=aK g3;obtain⟨y4,e4,g4⟩:=aK g4;cases e1;cases e2;cases e3;cases e4;have ky:∀{x:Str} {y:Expr},chkE Γ.g (.str x) y=Z7->PE X y (tD Z.K (aL Z.Κ Z.Φ (.str x))):=λ{x y} g=>by rw[k.kk];exact(all (.str x)).E Γ.g X r y k.ck g
  exact zjv (z40 (ky g1) (G.E Γ Z CX X r _ k u) (z40 (ky g2) (N.E Γ Z CX X r _ k B) (z40 (ky g3) (ic.E Γ Z CX X r _ k D) (z40 (ky g4) (S2.E Γ Z CX X r _ k I) Oa)))) rfl rfl (by simp) (by show 4<=15;decide)) (λ_ _=>rfl) λ_ _=>rfl
 |AR a G=>exact We.x (λΓ Z CX X r e k h=>by obtain⟨⟨x,es⟩,L,J⟩:=aK h;obtain⟨_,_,rfl⟩:=jR L;obtain⟨u,B,D⟩:=aU J;obtain⟨y,hy,I⟩:=aK D;cases fR hy;obtain⟨I,O⟩:=aE I;have u:x=("list":Str):=eqB u;subst u;obtain⟨g1,g2,g3,g4⟩:=k.ck.blt B;show PE X _ (mX (rAgg Z.K "list") _);rw[k.kk];exact zY Qk g2 (show dk "list"=_ by decide+kernel) (eU (G.E Γ Z CX X r _ k O) lD (cG I)) (by rw[db,I];rfl) g1 g4 g3) (λ_ _=>rfl) λ_ _=>rfl
 |lit o io=>exact We.x (λΓ Z CX X r e k h=>by obtain⟨M,h⟩:=aE h;obtain⟨⟨x,es⟩,L,J⟩:=aK h;obtain⟨_,_,rfl⟩:=jR L;obtain⟨u,B,D⟩:=aU J;obtain⟨y,hy,I⟩:=aK D;cases fR hy;obtain⟨⟨b,n,es,l⟩,hm,h8⟩:=aK I;obtain⟨ap,cp,rfl,hb⟩:=jS hm;obtain⟨h0,P,h7⟩:=aU h8;obtain⟨O,U,S3⟩:=aU h0;cases fL h7;have O:n=("items":Str):=eqB O;subst O;have u:x=("list":Str):=eqB u;subst u;obtain⟨g1,g2,g3,g4⟩:=k.ck.blt B;show PE X _ (mX (AQ Z.K) (oY (mZ Z.K "dict" AO _) fF));rw[k.kk];exact zY (SY (k.ck.calm M)) g2 (show dk "list"=_ by decide+kernel) (eU (zik PySem.F.plainAttrs_dict PySem.F.slot_dict_items PySem.F.type_dict_items SX (io.E Γ Z CX X r _ k P) (nB U) (hb.symm.trans S3)) lD rfl) rfl g1 g4 g3) (λ_ _=>rfl) λ_ _=>rfl
 |lc nt js N' t en it c x ii ic ie=>exact We.x (EG ii ic ie) (λ_ _=>rfl) λ_ _=>rfl
 |nil=>exact⟨λ_ _ _ _ _ _ _ h=>ff rfl h,λΓ Z CX X r es k h=>by cases fL h;exact lD,λ_ _ _ _ _ _ _ h=>ff rfl h⟩
 |cons a q G iq=>exact⟨λ_ _ _ _ _ _ _ h=>ff rfl h,λΓ Z CX X r es k h=>by
  cases es with
  |nil=>cases h
  |cons e es=>obtain⟨u,B,D⟩:=aU h;exact eU (G.E Γ Z CX X r _ k B) (iq.A Γ Z CX X r _ k D) (cG u),λ_ _ _ _ _ _ _ h=>ff rfl h⟩
end
theorem AW (outer:List Env)(H:Hp)(s:bb)(e:Value)(a:bb):¬CXE P w base outer H s (λ_ _ _=>False) e a:=λz=>by obtain⟨_,_,_,_,_,_,z⟩:=z;exact z
def kQ (X:Cx)(pn:List (Addr×Obj))(E:Value->bb->Prop):Cx:={X with pn:=pn,xe:=E}
theorem J1 (ok:X.Ok):(kQ X pn E).Ok:=⟨ok.mod,ok.kind,ok.glob,ok.blt,ok.above,ok.inj,ok.has,ok.rV,ok.hd,ok.frames,ok.tT,ok.kA,ok.bs,ok.kE,ok.iC,ok.iD,ok.cK,ok.oX,ok.wU⟩
theorem S4 (I:Inv X a b H s)(E:Value->bb->Prop):Inv (kQ X (X.pn++a) E) [] b H s:=⟨J1 I.ok,I.os,I.bare,I.base,I.loc,I.cell,I.free,I.bC,λp c=>I.pin p (by simpa[Mi.kQ]using c),I.hok,I.len,I.fx⟩
theorem EI (ok:X.Ok)(I:Inv (kQ X (X.pn++a) E) rW b H s):Inv X a b H s:=⟨ok,I.os,I.bare,I.base,I.loc,I.cell,I.free,I.bC,λp c=>I.pin p (ey _ c),I.hok,I.len,I.fx⟩
theorem J2 (k:Cok Γ Κ Φ X r)(hx:Γ.xc=Z8)(pn:List (Addr×Obj))(E:Value->bb->Prop):Cok Γ Κ Φ (kQ X pn E) r:=⟨k.hN,k.hs,k.nd,k.fn,k.kind,k.free,k.fns,k.cst,k.qH,k.room,k.calm,k.hu,k.nY,k.As,λn c z=>(by rw[hx]at z;cases z),k.xk⟩
section
variable {P:cu}{w:World}{A:gn}{E:Value->bb->Prop}{h:Heap}{g:Array qy}{d:Drawn}{t:Nat}{os:k7}
variable {nm q:Str}{C N:Addr}{bs bm bB:List Value}{hdct:Bool}{sn:List Str}{sub:List Value}{ab:Bool}{col:Option Bool}{dd:Option Addr}{k0 k1 k2 k3 k5:Option Value}{B newId initId:String}{mN:Str->Option Value}{us:List Value}{f:Addr}{o:Obj}
theorem zpa (F:ExcBaseFacts B newId initId bB)(T:ph h bB bm)(a:h.get? C=Z9 (mi nm q C N bs bm hdct sn sub ab col dd k0 k1 k2 k3 k5 newId))(hN:h.Ns N mN)(v:mN "__init__"=Z9 (.ref f))(hf:h.get? f=Z9 o)(hc:o.cls=.type "function")
  (go:∀n e,h.objs.size<=e->pc h n e (.ref C) us->wpAny (model P w) A (call (.ref f) (.ref e::us)) (λr p=>r=.none/\Q (.done (.ret (.ref e))) p) E ⟨n,g,d,t,os⟩) (x:us.length<=ba):
  wpAny (model P w) A (Builtin.«type.__call__» ⟨.ref C::us,[]⟩) Q E ⟨h,g,d,t,os⟩:=by
 repeat (first|(with_reducible refine wpAny_madeBy_exc a ?_)|(with_reducible refine cf a ?_)|wp_step)
 refine codeAny_call_builtin_code (Code.quiet_builtin _ F.quiet) (wpAny_check_new_subT F T a (codeAny_exc_new_subT F T a ?_ x));generalize s:({cls:=.type "tuple",data:=.seq us.toArray}:Obj)=i;generalize l:({cls:=.ref C,data:=.fields #[.ref h.objs.size,.none,.none,.none,.bool Z6,.none]}:Obj)=c;have keep:∀b u,h.get? b=Z9 u->((h.push i).push c).get? b=Z9 u:=λb u z=>am _ (am _ z);have j:((h.push i).push c).get? (h.objs.size+1)=Z9 c:=mj (by rw[ot]) (by rw[<-l];rfl);have m:((h.push i).push c).get? h.objs.size=Z9 i:=am _ (mj rfl (by rw[<-s];rfl));have k:c.cls=.ref C:=by rw[<-l]
 have self:(ZS C::bm).contains (.ref C)=true:=by simp
 repeat (first|(with_reducible refine cf j ?_;rw[k])|(with_reducible refine ip (keep _ _ a) ?_;rw[self])|wp_step)
 refine wpAny_typeLookup_tail (keep _ _ a) (hN.keeps keep) (T.keeps keep) F.mroIs F.init.lookup ?_;rw[v];apply gu;apply ah;refine ah (n7 ⟨o,keep _ _ hf,hc⟩ ?_);have made:pc h ((h.push i).push c) (h.objs.size+1) (.ref C) us:=⟨keep,ig (j5 _),h.objs.size,by rw[j,<-l],ig (ak _),by rw[m,<-s]⟩;refine bv (ah (ez (go _ _ (j5 _) made) (λr p z=>?_) λ_ _ z=>z));obtain⟨rfl,z⟩:=z
 wp_walk
 exact z
theorem zte (F:ExcBaseFacts B newId initId bB)(T:ph h bB bm)(a:h.get? C=Z9 (mi nm q C N bs bm hdct sn sub ab col dd k0 k1 k2 k3 k5 newId))(hN:h.Ns N mN)(c:mN "__init__"=Z9 (.ref f))(hf:h.get? f=Z9 o)(hc:o.cls=.type "function")
  (go:∀b e,h.objs.size<=e->pc h b e (.ref C) us->wpAny (model P w) (A.under (.builtin "type.__call__" ⟨.ref C::us,[]⟩)) (call (.ref f) (.ref e::us)) (λr i=>r=.none/\Q (.ref e) i) E ⟨b,g,d,t,os⟩) (j:us.length<=ba):
  wpAny (model P w) A (call (.ref C) us) Q E ⟨h,g,d,t,os⟩:=by
 have k:=tc_lookup;have l2:=tc_bind (.ref C);apply nq;apply codeAny_of_tree
 repeat (any_goals (first|(with_reducible refine cf a ?_)|assumption|wp_step))
 exact⟨rfl,codeAny_call_builtin_at (Code.quiet_builtin _ (by decide+kernel)) entry_typeCall (wpAny_check_type_call_sub a (zpa F T a hN c hf hc go j))⟩
end
section
open Builtin
open Builtin.ObjectAttr
structure XF (K:Z5)(C:Addr)(f:Str):Prop where
 ex:gL K C=Z7
 hd:∀dd cd sl,K.lookup C=Z9 ⟨.type "type",dd,.cls cd,sl⟩->cd.hasDict=Z7
 sa:Z4 K (.ref C) "__setattr__"=Z9 (Z9 (.builtin "object.__setattr__"))
 nf:Z4 K (.ref C) f=Z9 Z8
 ga:Z4 K (.ref C) "__getattribute__"=Z9 (Z9 (.builtin "BaseException.__getattribute__"))
 gt:Z4 K (.ref C) "__getattr__"=Z9 Z8
 ob:ZX K (.ref C) (.type "object")=Z9 Z7
 be:ZX K (.ref C) (.type "BaseException")=Z9 Z7
theorem J3:∀{l:List Value},ph h sS l->refuseLoop self what sS=pure ()->refuseLoop self what l=pure ()
 |_,.base,e=>e
 |_,.own _ _ _ T,e=>by rw[refuseLoop_ref];exact J3 T e
section
variable {prog:cu}{w:World}{A:gn}{E:Value->bb->Prop}{K:Z5}{h:Heap}{g:Array qy}{d:Drawn}{t:Nat}{os:k7}{C a:Addr}{ob:Obj}{vs:Array Value}{f:Str}{u:Value}
def J4 (h:Heap)(a:Addr)(ob:Obj)(f:Str)(u:Value)(h':Heap):Prop:=∃dp,h.get? dp=Z8/\dp≠a/\h.objs.size<=dp/\h'.get? a=Z9 {ob with dict:=Z9 dp}/\h'.Ns1 dp (λy=>if y=f then Z9 u else Z8)/\∀b o,b≠a->h.get? b=Z9 o->h'.get? b=Z9 o
theorem zhj (X:K.In h)(x:XF K C f)(k:h.get? a=Z9 ob)(hc:ob.cls=.ref C)(hd:ob.dict=Z8)(da:ob.data=.fields vs)
  (go:∀l p,J4 h a ob f u l->Q (.done (.ret .none)) ⟨l,g,d,p,os⟩):
  wpAny (model prog w) A (Builtin.«object.__setattr__» ⟨[.ref a,.str f vv9,u],[]⟩) Q E ⟨h,g,d,t,os⟩:=by
 obtain⟨bm,⟨N,nm,q,bs,j,Y,sub,Z,H,dd,k0,k1,k2,k3,k5,mN,B,hN,T⟩,_⟩:=XC.mk X x.ex;have I:j=true:=by obtain⟨J,cd,L,y0,y1,y2,y3,y5,D,_⟩:=vX x.ex;have O:=x.hd _ _ _ D;have F:=X _ _ D;rw[B]at F;cases F;exact O
 have c:=J3 (self:=.ref a) (what:="__setattr__") T (by kernel_rfl);have P:=Z3 (M:=model prog w) X x.nf
 repeat (first|rw[refuse_eq]|(rw[refuseLoop_ref,c])|(with_reducible refine cf k ?_;rw[hc])|with_reducible refine wpAny_mroOf_exc B ?_|with_reducible refine P.at ?_|wp_step)
 rw[hd,tx (by simp[typeHasDict]),da];have g1:(h.push {cls:=.type "dict",data:=.dict #[]}).get? a=Z9 ob:=am _ k;have na:=cv (bn k);refine ah (wpAny_alloc' (ah (wpAny_update' g1 (bv ?_))));generalize hh:((h.push {cls:=.type "dict",data:=.dict #[]}).update a λo=>{cls:=o.cls,dict:=Z9 h.objs.size,data:=o.data,slots:=o.slots})=m;have gd:m.get? h.objs.size=Z9 {cls:=.type "dict",data:=.dict #[]}:=by rw[<-hh];exact(jo _ _ _ _ (Ne.symm na)).trans (mj rfl rfl)
 have ga:m.get? a=Z9 {ob with dict:=Z9 h.objs.size}:=by rw[<-hh];refine g7 _ g1 ?_;have fr:=(Heap.get?_some_iff.mp k).2;obtain⟨oc,od,r,R⟩:=ob;cases r<;>first|rfl|exact fr
 have keep:∀b o,b≠a->h.get? b=Z9 o->m.get? b=Z9 o:=λb o n e=>by rw[<-hh];exact(jo _ _ _ _ n).trans (am _ e)
 have nd:m.Ns h.objs.size (λ_=>Z8):=⟨_,#[],_,gd,rfl,λe z=>absurd z (by simp),λ_=>rfl⟩
 delta storeInDict newKeyGuard
 refine ah (bv (ah (wpAny_nsSet1 (qk nd) λl n1 G=>?_)));obtain⟨oD,S,U,s,hZ,v⟩:=n1.count (Within.cons f u Within.nil);have i:[f].length<=ba+1:=by rw[cb];exact(by decide:1<=16777216+1)
 have y:=bj v i;refine ah (wpAny_lookBehind s (hZ▸pastItsLine_dict y) ?_)
 wp_walk
 refine go l _ ⟨h.objs.size,ig (ak _),Ne.symm na,ak _,(G.2 a na).trans ga,n1,λb o n e=>(G.2 b (cv (bn e))).trans (keep b o n e)⟩
theorem zfm {M:Model}{nameV:Value}{Q:Unit->bb->Prop}(X:K.In h)(x:XF K C f)(ge:h.get? a=Z9 ob)(hc:ob.cls=.ref C)(hq:Q () ⟨h,g,d,t,os⟩):
  wpAny M A (kr "object.__setattr__" ⟨[.ref a,nameV,u],[]⟩) Q E ⟨h,g,d,t,os⟩:=by
 have z1:rq "object.__setattr__"=Z9 .slot:=by decide+kernel
 have z2:splitId "object.__setattr__"=Z9 ("object","__setattr__"):=by decide+kernel
 have l1:=W.looks_subIn (M:=M) X x.ob;have ar:=PySem.F.args_object_setattr_3 (.ref a) nameV u;simp only[kr,z1,z2];refine ah ?_;unfold qi
 repeat (first|(with_reducible refine cf ge ?_;rw[hc])|with_reducible refine l1.at ?_|wp_step)
 exact hq
theorem zq0 (X:K.In h)(x:XF K C f)(e:h.get? a=Z9 ob)(hc:ob.cls=.ref C)(hd:ob.dict=Z8)(da:ob.data=.fields vs)
  (go:∀c b,J4 h a ob f u c->Q () ⟨c,g,d,b,os⟩):wpAny (model prog w) A (setAttr (.ref a) f u) Q E ⟨h,g,d,t,os⟩:=by
 have i:=PySem.F.slot_list_setattr.bind (.ref a)
 repeat (any_goals (first|assumption|(with_reducible refine cf e ?_;rw[hc])|with_reducible refine(Z3 (M:=model prog w) X x.sa).at ?_|wp_step))
 refine jj PySem.F.slot_list_setattr.plain PySem.F.entry_object_setattr (zfm X x e hc (zhj X x e hc hd da λc b p=>?_))
 repeat (any_goals (first|assumption|wp_step))
 exact go c b p
theorem zl3 (X:K.In h)(x:XF K C f)(c:h.get? a=Z9 ob)(hc:ob.cls=.ref C)(da:ob.data=.fields vs)(hd:ob.dict=Z9 dp)(hn:h.Ns dp k)(l:k f=Z9 u)
  (m:Q (.done (.ret u)) ⟨h,g,d,t,os⟩):wpAny (model prog w) A (Builtin.«object.__getattribute__» ⟨[.ref a,.str f y],[]⟩) Q E ⟨h,g,d,t,os⟩:=by
 obtain⟨bm,⟨N,nm,q,bs,b,z,sub,B,n,D,F,G,H,I,J,L,e,hN,T⟩,_⟩:=XC.mk X x.ex;have o:b=true:=by obtain⟨p,cd,r,O,P,R,S,U,i,_⟩:=vX x.ex;have s:=x.hd _ _ _ i;have j:=X _ _ i;rw[e]at j;cases j;exact s
 have v:=Z3 (M:=model prog w) X x.nf
 repeat (first|(with_reducible refine cf c ?_;rw[hc])|with_reducible refine v.at ?_|wp_step)
 rw[da]
 repeat (first|(with_reducible refine cf c ?_;rw[hc])|with_reducible refine cf e ?_|wp_step)
 rw[hd]
 repeat (first|(with_reducible refine wpAny_nsGet hn ?_;rw[l])|wp_step)
 exact m
theorem zkm {b:Tok}{dp:Addr}{c:Str->Option Value}{R:Result->bb->Prop}(X:K.In h)(x:XF K C f)(e:h.get? a=Z9 ob)(hc:ob.cls=.ref C)(da:ob.data=.fields vs)(hd:ob.dict=Z9 dp)(hn:h.Ns dp c)(i:c f=Z9 u)
  (j:R (.ok (.ret u)) ⟨h,g,d,t,os⟩):jl (model prog w) A (.call (.builtin "BaseException.__getattribute__") ⟨[.ref a,.str f b],[]⟩) R ⟨h,g,d,t,os⟩:=by
 refine jj F.excAttr_ValueError.ga.plain F.entry_bexc_ga ?_;have k:=W.looks_subIn (M:=model prog w) X x.be;have n:=F.args_bexc_ga (.ref a) (.str f b);have l:rq "BaseException.__getattribute__"=Z9 .slot:=by decide+kernel
 have m:splitId "BaseException.__getattribute__"=Z9 ("BaseException","__getattribute__"):=by decide+kernel
 simp only[kr,l,m];refine ah ?_;unfold qi
 repeat (first|(with_reducible refine zl3 X x e hc da hd hn i ?_;exact j)|(with_reducible refine cf e ?_;rw[hc])|with_reducible refine k.at ?_|wp_step)
theorem zw5 (X:K.In h)(x:XF K C f)(b:h.get? a=Z9 ob)(hc:ob.cls=.ref C)(da:ob.data=.fields vs)(hd:ob.dict=Z9 dp)(hn:h.Ns dp c)(e:c f=Z9 u)(hh:handedOut u=pure u)
  (i:Q u ⟨h,g,d,t,os⟩):wpAny (model prog w) A (getAttrBy (.ref a) (.str f j) Z7 ex) Q E ⟨h,g,d,t,os⟩:=by
 have k:=F.excAttr_ValueError.ga.bind (.ref a);have l:(ex&&onTheHeap (Value.builtin "BaseException.__getattribute__"))=false:=by cases ex<;>rfl
 repeat (any_goals (first|assumption|(with_reducible refine cf b ?_;rw[hc])|with_reducible refine(Z3 (M:=model prog w) X x.ga).at ?_|with_reducible refine(Z3 (M:=model prog w) X x.gt).at ?_|wp_step))
 refine zkm X x b hc da hd hn e ?_
 repeat' first|assumption|wp_step
theorem znt (X:K.In h)(x:XF K C f)(b:h.get? a=Z9 ob)(hc:ob.cls=.ref C)(da:ob.data=.fields vs)(hd:ob.dict=Z9 dp)(hn:h.Ns dp c)(e:c f=Z9 u)(hh:handedOut u=pure u)
  (i:Q u ⟨h,g,d,t+1,os⟩):wpAny (model prog w) A (tt (.ref a) f ex) Q E ⟨h,g,d,t,os⟩:=by
 repeat (any_goals (first|assumption|with_reducible apply zw5 X x b hc da hd hn e hh|wp_step))
end
end
def exO (a:Addr)(ob:Obj):HO:=.ext λh=>h.get? a=Z9 ob
def yJ:HO->Prop
 |.ext _=>True
 |.xd _=>True
 |_=>False
def jB (H:Hp)(a:Addr):Hp:=λb=>if b=a then Z8 else H b
theorem AX:jB H a a=none:=by unfold jB;rw[tw rfl]
theorem sY (h:b≠a):jB H a b=H b:=by unfold jB;rw[tx h]
theorem J5 (I:Inv X b c H s)(h:H a=Z9 (exO a ob)):s.heap.get? a=Z9 ob:=(I.hok a _ h).1
theorem J6 (e:h.get? a=Z9 ob):z1b P w H h a (exO a ob):=⟨e,⟨_,e⟩,λb c p k=>k _ p⟩
theorem Inv.jB (I:Inv X pins g H s)(h:H a=Z9 o)(i:yJ o):Inv X pins g (jB H a) s:=by
 have ne:∀{b u},H b=Z9 u->(yJ u->False)->b≠a:=λ{b u} e n z=>by subst z;rw[h]at e;cases e;exact n i
 have d:∀{b},H b=Z8->Mi.jB H a b=none:=λ{b} e=>by
  unfold Mi.jB;split
  .rfl
  .exact e
 refine⟨I.ok,I.os,I.bare,⟨I.base.keep,I.base.slot,λb o e n j=>d (I.base.free b o e n j),I.base.there,λb f e=>?_,λb o u e=>?_,λb ps e=>?_⟩,I.loc,I.cell,d I.free,λx c e=>d (I.bC x c e),λp k=>?_,λb o e=>?_,I.len,I.fx⟩
 .have e:=I.base.cW b f e;rw[sY (ne e id)];exact e
 .have e:=I.base.cJ b o u e;rw[sY (ne e id)];exact e
 .obtain⟨m,e⟩:=I.base.cX b ps e;exact⟨m,by rw[sY (ne e id)];exact e⟩
 .obtain⟨l,r,t⟩:=I.pin p k;exact⟨l,d r,t⟩
 .have v:b≠a:=by rintro rfl;rw[AX]at e;cases e
  rw[sY v]at e;refine(I.hok b o e).stay (λ_ _ _ q=>q) (λc q=>?_) λc f q=>?_
  .rw[sY (ne q id)];exact q
  .rw[sY (ne q id)];exact q
theorem zla (I:Inv X pins σ H s)(hO:H a=Z9 (exO a ob))(ry:RelV y u)(h0:s.heap.get? dp=Z8)(hz:s.heap.objs.size<=dp)(na:dp≠a)(ga:h'.get? a=Z9 {ob with dict:=Z9 dp})(ns:h'.Ns1 dp (fun g=>if g=f then Z9 u else Z8))(k:∀b o,b≠a->s.heap.get? b=Z9 o->h'.get? b=Z9 o):
  H dp=Z8/\Inv X pins σ (upd (upd H dp (.xd [(f,y)])) a (exO a {ob with dict:=Z9 dp})) {s with heap:=h',toks:=tk}:=by
 have J7:=I.hok.fresh hz;have ne:∀{b u},H b=Z9 u->(u=exO a ob->False)->b≠a:=λ{b u} e n z=>by subst z;rw[hO]at e;cases e;exact n rfl
 have nd:∀{b u},H b=Z9 u->b≠dp:=λ{b u} e z=>by subst z;rw[J7]at e;cases e
 have up:∀{b u},H b=Z9 u->(u=exO a ob->False)->upd (upd H dp (.xd [(f,y)])) a (exO a {ob with dict:=Z9 dp}) b=Z9 u:=λ{b u} e n=>by rw[aG (ne e n),aG (nd e)];exact e
 have nn:∀{b o},s.heap.get? b=Z9 o->H b=Z8->b≠a/\b≠dp:=λ{b o} e n=>⟨(by rintro rfl;rw[hO]at n;cases n),(by rintro rfl;rw[h0]at e;cases e)⟩;refine⟨J7,I.un ⟨λb o e n _ _=>k b o (nn e n).1 e,λb o e n _ _=>⟨o.slots,k b o (nn e n).1 e⟩,λb o e n _=>?_,λb o e _=>?_,λb xs e=>up e nofun,λb o u e=>up e nofun,λb ps e=>⟨#[],by rw[Array.append_empty];exact up e nofun⟩⟩ λb o e=>?_⟩
 .rw[aG (nn e n).1,aG (nn e n).2];exact n
 .by_cases hb:b=a
  .subst hb;exact⟨_,ga⟩
  .exact⟨o,k b o hb e⟩
 .by_cases hb:b=a
  .subst hb;rw[bF]at e;cases e;exact J6 ga
  .rw[aG hb]at e;by_cases hd:b=dp
   .subst hd;rw[bF]at e;cases e;refine⟨_,ns,λg=>?_⟩;by_cases hg:g=f
    .subst hg;simp;exact ry
    .have :(g==f)=false:=by simpa using hg
     simp only[c7,this,List.lookup_nil,tx hg];exact True.intro
   .rw[aG hd]at e;refine(I.hok b o e).stay (λc v hc q=>k c v ?_ q) (λc q=>up q nofun) λc xs q=>up q nofun;rcases hc with rfl|hc
    .exact hb
    .exact ne hc nofun
def EJ (K:Z5)(ta tv:TE)(f:Str):TS:=λD σ H=>tv σ H λy H1=>ta σ H1 λx H2=>∃a C ob vs,x=.ref a/\H2 a=Z9 (exO a ob)/\ob.cls=.ref C/\ob.dict=Z8/\ob.data=.fields vs/\XF K C f/\∀dp,H2 dp=Z8->dp≠a->D.nx σ (upd (upd H2 dp (.xd [(f,y)])) a (exO a {ob with dict:=Z9 dp}))
theorem S5 (i:PE X o j)(l:PE X value tv)(hs:jk value (Z9 (.Attribute o f c)) pos.line X.env=pure Z6):PS X (.Assign [.Attribute o f c] value pos) (EJ X.K j tv f):=by
 intro b s d H D I h;refine ko (aM (l b s d H _ I h) λu m ⟨y,n,p,r,q⟩=>aM (i b m d n _ p q) ?_) hs
 rintro ov E ⟨x,F,e,t,a,C,ob,G,ex,g,hc,hd,da,xf,v⟩
 subst ex;obtain rfl:ov=ZS a:=t;refine zq0 e.cL xf (J5 e g) hc hd da ?_
 rintro J w ⟨dp,h0,na,z,ga,ns,k⟩
 obtain⟨A,B⟩:=zla e g r h0 z na ga ns k;exact⟨d,_,B,v dp A na⟩
def uV (K:Z5)(f:Str):Sp:=λvs H Q _=>∃a C ob ws y,vs=[.ref a,y]/\H a=Z9 (exO a ob)/\ob.cls=.ref C/\ob.dict=Z8/\ob.data=.fields ws/\XF K C f/\∀dp,H dp=Z8->dp≠a->Q .aO (upd (upd H dp (.xd [(f,y)])) a (exO a {ob with dict:=Z9 dp}))
structure XI (K:Z5)(C f:Addr):Prop where
 S6:∀dd cd sl,K.lookup C=Z9 ⟨.type "type",dd,.cls cd,sl⟩->ZY K cd.ns "__init__"=Z9 (Z9 (.ref f))
 fn:W.isFn K (.ref f)=Z7
theorem S7 {K:Z5}(X:K.In h)(G:h.Ns N m)(e:ZY K N n=Z9 (Z9 v)):m n=Z9 v:=by
 obtain⟨o,es,ep,a,hd,_,hf⟩:=G;unfold ZY at e;split at e
 .rename_i q;have z:=X _ _ q;rw[a]at z;cases z;cases hd;split at e
  .rename_i b;cases e;rw[<-hf];unfold nsFind findBy;rw[<-qg,b];rfl
  .split at e<;>cases e
 .cases e
theorem XI.at {K:Z5}{C:Addr}(X:K.In h)(q:gL K C=Z7)(x:XI K C f):∃bm N nm qn bs hdct sn sub ab col dd k0 k1 k2 k3 k5 mN o,h.get? C=Z9 (mi nm qn C N bs bm hdct sn sub ab col dd k0 k1 k2 k3 k5 "ValueError.__new__")/\h.Ns N mN/\mN "__init__"=Z9 (.ref f)/\ph h sS bm/\h.get? f=Z9 o/\o.cls=.type "function":=by
 obtain⟨dd,cd,bm,k0,k1,k2,k3,k5,ho,hm,hd,ht,hk⟩:=vX q;have hN:h.Ns cd.ns (h.nsMap cd.ns):=.of_isNs (W.isNs_of_in X hk);obtain⟨o,e1,e2⟩:=bp.mp (uc x.fn);refine⟨bm,cd.ns,cd.name,cd.qualname,cd.bases,cd.hasDict,cd.slotNames,cd.subclasses,cd.abstract,cd.collection,dd,k0,k1,k2,k3,k5,h.nsMap cd.ns,o,?_,hN,S7 X hN (x.S6 _ _ _ ho),W.tail_of_in X ht,X _ _ e1,e2⟩;have h2:=X _ _ ho;cases cd
 dsimp only at hm hd
 rw[hm,hd]at h2;exact h2
def yK (X:Cx)(E:XK):Prop:=∀pins σ H s a C ob vs,Inv X pins σ H s->H a=Z8->(∃H1 s1,Inv X pins σ H1 s1/\s1.heap.get? a=Z8)->s.heap.get? a=Z9 ob->ob.cls=.ref C->ob.data=.fields vs->vs[1]?=Z9 .none->E (.ref C) ob.dict H->X.xe (.ref a) s
theorem zha {M:Model}{A:gn}{E:Value->bb->Prop}{env:Env}{s:bb}{x:Sem Value}{Q:Flow->bb->Prop}{C:Addr}(hh:A.handled=Z8)
  (h:wpAny M A x (λv a=>∃e ob t bm,v=.ref e/\XC C a.heap bm/\a.heap.get? e=Z9 ob/\ob.cls=.ref C/\ob.data=.fields #[.ref t,.none,.none,.none,.bool Z6,.none]/\E (.ref e) a) E s):wpAny M A (raiseStmt env (Z9 x) Z8) Q E s:=by
 unfold raiseStmt;refine ah (ez h (λv a j=>?_) λ_ _ x=>x);obtain⟨e,ob,t,bm,rfl,⟨N,nm,q,bs,f,m,sub,n,k,o,p,r,u,w,y,z,c,hN,T⟩,i,hc,da,l⟩:=j;have b:(ZS C::bm).contains (.type "BaseException")=true:=by rw[jy,IX T,oa]
 obtain⟨B,g,d,D,os⟩:=a
 repeat (first|(with_reducible refine cf i ?_;first|rw[hc]|rw[da])|with_reducible refine cf c ?_|(with_reducible refine ip c ?_;rw[b])|wp_step)
 rw[da]
 repeat (first|(with_reducible refine cf i ?_;first|rw[hc]|rw[da])|with_reducible refine cf c ?_|(with_reducible refine ip c ?_;rw[b])|wp_step)
 exact pp hh l
theorem zep {C:Addr}(hr:Room (k+1) X.A)(hg:Gl X x)(hm:X.mg x=Z9 (.ref C))(Q:Xv x)(xf:XF X.K C fl)(xi:XI X.K C f)
  (F:FnOk X.prog X.w X.K X.mg X.base (CXE X.prog X.w X.base) k f fd ps (uV X.K fl)) (n:Binds X.K fd ps []) (he:PE X e te) (m:isStar e=Z6) (rs:yK X E):
  PS X (.Raise (Z9 (.Call (.Name x np) [e] [] cp)) Z8 pos) (λ_ L H=>te L H λy h=>∀dp,h dp=Z8->E (.ref C) (Z9 dp) (upd h dp (.xd [(fl,y)]))):=by
 intro j s L H D I hq;have R:(jn cp (dj [e] X.env)).any (·.1)=false:=by rw[eQ m];rfl
 refine ah (il (zha (C:=C) hr.hd (ah (ez (wpAny_Call_ofName (z44 I hg hm ?_ Q)) (λv s3 h3=>ah (il (bv h3))) λ_ _ z=>z))));have p:=(eU he lD m) cp j s L H (λM h=>match M with| [y]=>∀dp,h dp=Z8->E (.ref C) (Z9 dp) (upd h dp (.xd [(fl,y)]))|_=>False) I hq;rw[eQ m]at p R ⊢;refine ah (gu (lb (aM p λus s1 zz=>ah (il ?_))));obtain⟨M,h,O,r,S⟩:=zz
 obtain⟨y,rfl⟩:∃y,M=[y]:=by
  rcases M with _|⟨y,_|⟨z,l⟩⟩
  .exact S.elim
  .exact⟨y,rfl⟩
  .exact S.elim
 cases r with
 |cons ry rn=>
  cases rn;rename_i u;obtain⟨hp,g,d,t,os⟩:=s1;obtain⟨bm,N,nm,qn,bs,hdct,sn,sub,ab,col,dd,k0,k1,k2,k3,k5,mN,o,oC,hN,hi,T,hf,hc⟩:=xi.at O.cL xf.ex;refine ah (wpAny_keeperOf_exc oC ?_);refine ah (zte PySem.F.excBase_ValueError T oC hN hi hf hc (λh' a hz made=>?_) (show 1<=ba by rw[cb];decide));obtain⟨tp,ga,_,_⟩:=made.there;generalize c:({cls:=.ref C,data:=.fields #[.ref tp,.none,.none,.none,.bool Z6,.none]}:Obj)=ob at ga;have U:=O.laid (t':=t) made.keeps hz (J6 ga);have q:=O.hok.fresh hz
  let Q2:VK:=λv H3=>v=.aO/\∃dp,h dp=Z8/\dp≠a/\H3=upd (upd (upd h a (exO a ob)) dp (.xd [(fl,y)])) a (exO a {ob with dict:=Z9 dp})
  have B:uV X.K fl [.ref a,y] (upd h a (exO a ob)) Q2 (λ_ _ _=>False):=⟨a,C,ob,#[.ref tp,.none,.none,.none,.bool Z6,.none],y,rfl,bF,by rw[<-c],by rw[<-c],by rw[<-c],xf,λdp P G=>⟨rfl,dp,by rw[aG G]at P;exact P,G,rfl⟩⟩;have r2:Vals [V.ref a,y] [ZS a,u]:=.cons rfl (.cons ry .nil);refine nq (i3 (F.run _ X.stack _ _ ⟨[ZS a,u],[]⟩ [ZS a,u] [V.ref a,y] Q2 (λ_ _ _=>False) (hr.make C [u] []) (U.pN.make C [u] []) (n ⟨h',g,d,t,os⟩ [ZS a,u] U.cL (by rw[dw];exact(r2.length▸F.len _ _ _ _ B))) r2 B) λrr s' i=>?_);cases rr with
  |error e'=>obtain⟨_,_,_,_,_,_,z⟩:=i;exact z.elim
  |ok W=>
   cases W with
   |next=>exact i.elim
   |brk=>exact i.elim
   |cont=>exact i.elim
   |ret w=>
    obtain⟨v,H3,Y,rv,rfl,dp,P,G,rfl⟩:=U.after i;refine⟨rv,ah (gu (wpAny_point (bv ?_)))⟩;have J:=J5 Y bF;have I4:=Mi.Inv.jB Y bF True.intro
    have eH:Mi.jB (upd (upd (upd h a (exO a ob)) dp (.xd [(fl,y)])) a (exO a {ob with dict:=Z9 dp})) a=upd h dp (.xd [(fl,y)]):=by
     funext b
     by_cases n:b=a
     .subst n;rw[AX,aG (Ne.symm G),q]
     .rw[sY n,aG n];by_cases hd:b=dp
      .subst hd;rw[bF,bF]
      .rw[aG hd,aG hd,aG n]
    rw[eH]at I4;obtain⟨Aq,xc,_⟩:=XC.mk Y.cL xf.ex;refine⟨a,_,tp,Aq,rfl,xc,J,by rw[<-c],by rw[<-c],rs j L _ s' a C _ _ I4 ?_ ⟨h,_,O,made.new⟩ J (by rw[<-c]) (by rw[<-c]) rfl (S dp P)⟩;rw[aG (Ne.symm G)];exact q
theorem zqe {C:Addr}(m:X.fx=Z9 (n,.ref a))(o:X.env.scope.names.lookup n=Z9 .local)(hd:Xv n)(e:z0w (.Name n p)=Z7)(r:Xh X a i)(hc:i.cls=.ref C)(da:i.data=.fields F)(j:i.dict=Z9 dp)(x:Xh X dp od)(hm:∀h:Heap,h.get? dp=Z9 od->h.Ns dp y)(z:y f=Z9 u)(l:RelV v u)(xf:XF X.K C f):
  PE X (.Attribute (.Name n p) f q) (λ_ H Q=>Q v H):=by
 intro b s A H Q I h;refine zdw (nB e) (aM (Jd m o hd b s A H (λw k=>w=.ref a/\k=H) I ⟨rfl,rfl⟩) λw B D=>?_);obtain⟨G,k,c,E,rfl,rfl⟩:=D;obtain rfl:w=ZS a:=E;obtain⟨hh,g,d,t,os⟩:=B;exact znt c.cL xf (r _ _ _ _ c) hc da j (hm _ (x _ _ _ _ c)) z (W.handedOut_of (Hi l)) ⟨v,k,c.tok (t+1),l,h⟩
theorem zl9 {C D:Addr}(I:Inv X c M H1 s1)(P:Fly X.prog X.w X.base X.stack H1 s1 C a Q s' (Z9 dp))(hy:Q dp=Z9 (.xd [(fl,y)]))(hs:X.stack=X.env::X.outer)(hf:X.env.frame=Z9 X.env.locals)(hx:X.fx=Z8)(nd:X.N.Nodup)(hi:X.N[i]?=Z9 n)(hv:X.env.scope.names.lookup ("":Str)=Z8)(hl:X.env.scope.names.lookup n=Z9 .local)
  (hB:X.mg B=Z9 (.ref D)) (xC:gL X.K C=Z7) (xD:gL X.K D=Z7) (sb:ZX X.K (.ref C) (.ref D)=Z9 Z7) (R:Gl X B) (S:Xv B)
  (U:∀od O u t ws,(∀h:Heap,h.get? dp=Z9 od->h.Ns dp O)->O fl=Z9 u->RelV y u->t.cls=.ref C->t.dict=Z9 dp->t.data=.fields ws->PSs (jP (kQ X ((dp,od)::X.pn) X.xe) i n a t) (b0::iK) T) (q:T ⟨λσ' oG=>Dn.nx (σ'.set i Z8) oG,Dn.rt,λ_ _=>False,λ_ _=>False⟩ (ay M.length Z8) (jB Q dp)):
  wpAny (model X.prog X.w) X.A (ja (.ref a) X.env) (λ_ E=>wpAny (model X.prog X.w) X.A (j7 (.ref a) Z8) (λ_ s3=>wpAny (model X.prog X.w) X.A (o4 (.ref a) X.env [.ExceptHandler (Z9 (.Name B np)) (Z9 n) (b0::iK) x]) (SP X c Dn) X.xe s3) X.xe E) X.xe s':=by
 obtain⟨B0,S8,F,DH,w0⟩:=P.hh;have l:=w0;rw[hs]at l;obtain⟨O,G,rel⟩:=F dp _ hy;obtain⟨od,es,ep,m,H,J8⟩:=id G;have rf:=rel fl;simp at rf;obtain⟨u,hu,ru⟩:=cA.some_of rf
 have e0:(ay M.length (Z8:Option V)).set i Z8=ay M.length none:=by
  apply gg;intro j;rw[du];split
  .rename_i h;subst h;split<;>simp_all
  .rfl
 have back:∀{p2:List (Addr×Obj)} {d:L2.St} {k:Hp} {E:bb},Inv (kQ X ((dp,od)::X.pn) X.xe) c d k E->Inv X c d k E:=λ{p2 d k E} J=>⟨I.ok,J.os,J.bare,J.base,J.loc,J.cell,J.free,J.bC,λp x=>J.pin p (by exact bc _ x),J.hok,J.len,J.fx⟩;refine zfb (pins:=c) (X:=kQ X ((dp,od)::X.pn) X.xe) (λh6 w6 up=>?_) l ?_ hs hf hx nd hi hv hl hB (λA=>yk (X:=kQ X ((dp,od)::X.pn) X.xe) xC xD sb A) R S (λf s h=>?_) (λt ws h1 h2 h3=>U od O u t ws (λh e=>(G.at (h':=h) λo z=>by rw[m]at z;cases z;exact e).ns) hu ru h1 h2 h3) (e0▸q)
 .have J:=Fly.land I P S8 F DH (hs▸w6) up;have g:Inv X c (ay M.length Z8) (jB Q dp) {s' with heap:=h6}:=(Mi.Inv.jB J hy True.intro).weak (by rw[b6]) λj v e=>by rw[cz]at e;split at e<;>cases e
  refine⟨J1 g.ok,g.os,g.bare,g.base,g.loc,g.cell,g.free,g.bC,λp x=>?_,g.hok,g.len,g.fx⟩;rcases bq.mp x with rfl|x
  .have L:∀b∈(X.env::X.outer).filterMap (·.frame),dp≠b:=fun b hb z=>by
    have:=(l.2.2.1.mem hb).1;rw[<-z,m]at this;cases this
   refine⟨(w6.1 _ _ m),AX,L _ ?_,λz=>L dp ?_ rfl,λv z=>?_⟩
   .rw[dt,hf];exact bg
   .rw[dt,hf];exact bc _ z
   .have z:od.data=.cell v:=z;rw[H]at z;cases z
  .exact g.pin p x
 .have :=Jc P;by_cases e:a=dp
  .rw[e];exact AX
  .rw[sY e];exact this
 .cases f with
  |next=>obtain⟨d,k,J,z⟩:=h;exact⟨d,k,back (p2:=c) J,z⟩
  |brk=>obtain⟨d,k,J,z⟩:=h;exact⟨d,k,back (p2:=c) J,z⟩
  |cont=>obtain⟨d,k,J,z⟩:=h;exact⟨d,k,back (p2:=c) J,z⟩
  |ret u=>obtain⟨v,d,k,J,r,z⟩:=h;exact⟨v,d,k,back (p2:=c) J,r,z⟩
inductive WS where
 |nil|seq (a b:WS)|asg (i:Nat) (e:W)|fld (o:W) (f:Str) (e:W)|put (o k v:W)|exp (e:W)|app (o v:W)|yL (o:W)|ret (e:W)|bN (c:W) (a b:WS)|yM (c:W) (b:WS)|bH (t:Tg) (it:C) (b:WS)|jI (c:Str)|AY (o:W) (f:Str) (e:W)|yN (c fl:Str) (e:W)|lS (t:Tg) (it:W) (b:WS)|uW (b hs:WS) (i n:Nat)|hn (c:Str) (f:Option Str) (h rest:WS)|gB (i:Nat) (it:W) (b:WS)
 deriving Inhabited
def EK:W->Bool
 |.aX c=>!lN c
 |_=>Z6
theorem S9 (k:Cok f Κ Φ X r)(A:lJ f i x=Z7)(hn:lN c=Z6)(a:chkE f c v=Z7):PS X (.Assign [.Name x px] v pos) (lC (tD X.K (aL Κ Φ c)) (rX i)):=by
 obtain⟨h,l2,l3⟩:=k.loc A;have nd:X.N.Nodup:=k.hN▸k.nd;cases hc:kI v with
 |false=>exact xP nd h l2 ((all c).E f X r _ k a) hc l3
 |true=>
  cases v<;>first|(cases hc;done)|skip
  .rename_i el I s p;cases g:(X.env.blockKind==.function&&X.env.kindOf x==Z9 .local&&px.line==p.line&& !(s.names.any λ(n,k)=>n==x&&(k==.local||k==.cell)))with
   |false=>exact zd5 nd h l2 ((all c).E f X r _ k a) (by rw[Aw,g]) l3
   |true=>
    obtain⟨J,L,M,O,it,b,j,rfl⟩:=Jk hn a;obtain⟨B,t,P,C,l,m,e,o,h0,u,w,y,z,hs,d⟩:=sC (all it) (all b) (all j) k a;cases e;have F:X.env.scope.names.lookup x=Z9 .local:=by simp at g;exact g.1.1.2
    exact PS.imp (zap (k.calm d) nd h F o u w y z (by rw[Aw,g]) hs) λD G H q=>(zbv (pos:=p) (k.calm d) o h0 u w y z hs).2 G H _ q
  .exact(Jl a).elim
  .exact(Jm a).elim
def rz:WS->Bool
 |.seq a b=>rz a||rz b
 |.jI _=>Z7
 |.yN _ _ _=>Z7
 |.bN _ a b=>rz a||rz b
 |.yM _ _=>Z7
 |.bH _ _ _=>Z7
 |.lS _ _ _=>Z7
 |.gB _ _ _=>Z7
 |_=>Z6
mutual
def wS:Wc->WS->TS
 |_,.nil=>G2
 |Z,.seq a b=>xh (wS Z a) (wS Z b)
 |Z,.asg i e=>lC (wE Z e) (rX i)
 |Z,.fld o f e=>ue Z.K (wE Z o) (wE Z e) f
 |Z,.put o k v=>yi (wE Z o) (wE Z k) (wE Z v)
 |Z,.exp e=>tW (wE Z e)
 |Z,.app o v=>tW (Ci Z.K "list" zT (wE Z o) (oY (wE Z v) fF))
 |Z,.yL o=>tW (mZ Z.K "list" zU (wE Z o))
 |Z,.ret e=>xj (wE Z e)
 |Z,.bN c a b=>xl (wT Z c) (wS Z a) (wS Z b)
 |Z,.yM c b=>G6 (wT Z c) (wS Z b)
 |Z,.bH t it b=>jF (tDW Z.K (evW Z.Κ Z.Φ it)) (tDG Z.K t) (wS Z b)
 |Z,.jI c=>λ_ _ H=>∀C,Z.mg c=Z9 (.ref C)->Z.E (.ref C) Z8 H
 |Z,.AY o f e=>EJ Z.K (wE Z o) (wE Z e) f
 |Z,.yN c fl e=>λ_ σ H=>∀C,Z.mg c=Z9 (.ref C)->wE Z e σ H λy H1=>∀dp,H1 dp=Z8->Z.E (.ref C) (Z9 dp) (upd H1 dp (.xd [(fl,y)]))
 |Z,.lS t it b=>jF (xp Z.K (wE Z it)) (tDG Z.K t) (wS Z b)
 |Z,.gB i it b=>jF (xp Z.K (wE Z it)) (rX i) (wS Z b)
 |Z,.uW b hs i n=>λD σ H=>wS {Z with E:=wX Z hs D i n} b ⟨D.nx,D.rt,λ_ _=>False,λ_ _=>False⟩ σ H
 |_,.hn _ _ _ _=>λ_ _ _=>False
def wX:Wc->WS->Ends->Nat->Nat->XK
 |Z,.hn c f h rest,D,i,n=>fun v dd H'=>(∃C,Z.mg c=Z9 (.ref C)/\v=.ref C/\match f with
   |none=>wS {Z with E:=λ_ _ _=>False,xf:=Z8} h ⟨λσ' oG=>D.nx (σ'.set i Z8) oG,D.rt,λ_ _=>False,λ_ _=>False⟩ (ay n Z8) H'
   |some fl=>∃dp y,dd=Z9 dp/\H' dp=Z9 (.xd [(fl,y)])/\wS {Z with E:=λ_ _ _=>False,xf:=Z9 y} h ⟨λσ' oG=>D.nx (σ'.set i Z8) oG,D.rt,λ_ _=>False,λ_ _=>False⟩ (ay n Z8) (jB H' dp))
  \/wX Z rest D i n v dd H'
 |_,_,_,_,_=>λ_ _ _=>False
end
def yO:Stmt->Option (List Stmt×ExceptHandler)
 |.Try b h o f _=>if o.isEmpty&&f.isEmpty then(bI h).map λu=>(b,u)else Z8
 |_=>Z8
theorem S' (e:yO s=Z9 v):∃p,s=.Try v.1 [v.2] [] [] p:=bS (q:=λv=>∃p,s=.Try v.1 [v.2] [] [] p) e (by
 cases s with
 |Try b h o f p=>rcases h with _|⟨h,_|_⟩<;>rcases o with _|_<;>rcases f with _|_<;>first|exact .inl rfl|exact .inr ⟨_,rfl,_,rfl⟩
 |_=>exact .inl rfl)
def J9 (s:Stmt):Option (List Stmt×Str×Str×List Stmt):=(yO s).bind λt=>(CZ t.2).map λu=>(t.1,u)
theorem EL (e:J9 s=Z9 v):∃a b d,s=.Try v.1 [.ExceptHandler (Z9 (.Name v.2.1 a)) (Z9 v.2.2.1) v.2.2.2 b] [] [] d:=by obtain⟨t,c,e⟩:=iy.mp e;obtain⟨p,rfl⟩:=S' c;obtain⟨x,c,rfl⟩:=bp.mp e;obtain⟨a,b,h⟩:=DX c;exact⟨a,b,p,by rw[h]⟩
def EM (Γ:Gw)(i:Nat)(nm c:Str)(f:Option Str):Gw:={Γ with g:={Γ.g with N:=Γ.g.N.set i "",cm:=Z6,xc:=Z9 (nm,c),fns:=[]},xf:=f}
mutual
def AZ:Gw->WS->Stmt->Bool
 |Γ,.asg i e,s=>(vR s).any λu=>(bI u.1).any λx=>qz Γ.g (.nm i) x&&(!kI u.2||EK e)&&bD Γ e u.2
 |Γ,.fld o f e,s=>(vR s).any λu=>(bI u.1).any λx=>(uD x).any λv=>(v.2.1==f)&& !kI u.2&&bD Γ o v.1&&bD Γ e u.2
 |Γ,.put o k v,s=>(vR s).any λu=>(bI u.1).any λx=>(jL x).any λw=>!kI u.2&&bD Γ o w.1&&bD Γ k w.2&&bD Γ v u.2
 |Γ,.exp e,s=>(vS s).any λv=>!kI v&&bD Γ e v
 |Γ,.app o e,s=>(vS s).any λc=>(sJ c).any λv=>((v.2.1==("append":Str))&&z0w v.1&&v.2.2.2)&&bD Γ o v.1&&(bI v.2.2.1).any λy=>!isStar y&&bD Γ e y
 |Γ,.yL o,s=>(vS s).any λc=>(sJ c).any λv=>((v.2.1==("clear":Str))&&z0w v.1&&v.2.2.2)&&bD Γ o v.1&&v.2.2.1.isEmpty
 |Γ,.ret e,s=>(CU s).any λo=>o.any λv=>bD Γ e v
 |Γ,.bN c a b,s=>(CV s).any λv=>mO Γ c v.1&&wkL Γ a v.2.1&&wkL Γ b v.2.2
 |Γ,.yM c b,s=>(CW s).any λv=>mO Γ c v.1&&wkL Γ b v.2.1&&v.2.2.isEmpty
 |Γ,.bH t it b,s=>Γ.g.cm&&(ya s).any λv=>(qz Γ.g t v.1&&Ac it v.1&&sH v.2.1)&&lM Γ.g it v.2.1&&wkL Γ b v.2.2.1&&v.2.2.2.isEmpty
 |Γ,.jI c,s=>(yb s).any λv=>(v.1==c)&&nM Γ.g c&&Γ.g.rs.contains c&&Γ.g.cm&&(bI v.2).any CY
 |Γ,.AY o f e,s=>(vR s).any λu=>(bI u.1).any λx=>(uD x).any λv=>(v.2.1==f)&& !kI u.2&&bD Γ o v.1&&bD Γ e u.2
 |Γ,.yN c fl e,s=>(yb s).any λv=>(v.1==c)&&nM Γ.g c&&Γ.fld.contains (c,fl)&&Γ.g.cm&&(bI v.2).any λy=>!isStar y&&bD Γ e y
 |Γ,.lS t it b,s=>Γ.g.cm&&(ya s).any λv=>(qz Γ.g t v.1&&sH v.2.1)&&bD Γ it v.2.1&&wkL Γ b v.2.2.1&&v.2.2.2.isEmpty
 |Γ,.gB i it b,s=>Γ.g.cm&&(ya s).any λv=>(qz Γ.g (.nm i) v.1&&sH v.2.1)&&bD Γ it v.2.1&&wkL Γ b v.2.2.1&&v.2.2.2.isEmpty
 |Γ,.uW b hs i n,s=>decide (Γ.g.N.length=n)&&(J9 s).any λv=>(Γ.g.cm&&(Γ.g.xc.isNone&& !Γ.g.blk)&&(Γ.g.N[i]?==Z9 v.2.2.1)&&(Γ.g.sc.names.lookup v.2.2.1==Z9 .local)&&decide (Γ.g.N.set i "").Nodup)&&((Γ.g.sc.names.lookup ("":Str)).isNone&&nM Γ.g v.2.1&& !rz b&&wkL Γ b v.1&&Γ.xf.isNone)&&(!v.2.2.2.isEmpty&& !(v.2.2.1==("__debug__":Str))&&wkH Γ hs i v.2.2.1 v.2.1 v.2.2.2)
 |_,_,_=>Z6
def wkH:Gw->WS->Nat->Str->Str->List Stmt->Bool
 |_,.nil,_,_,_,_=>Z7
 |Γ,.hn c f h rest,i,nm,B,su=>Γ.g.hV.contains (c,B)&&(match f with|none=>Z7|some fl=>Γ.fld.contains (c,fl))&&wkL (EM Γ i nm c f) h su&&wkH Γ rest i nm B su
 |_,_,_,_,_,_=>Z6
def wkL:Gw->WS->List Stmt->Bool
 |_,.nil,l=>l.isEmpty
 |Γ,.seq a b,l=>match l with|s::l=>AZ Γ a s&&wkL Γ b l|_=>Z6
 |_,_,_=>Z6
end
def Wfk (Γ:Gw)(X:Cx)(r:Nat):Prop:=∀c fl,Γ.fld.contains (c,fl)=Z7->∃C f fd ps k,X.mg c=Z9 (.ref C)/\XF X.K C fl/\XI X.K C f/\k+1<=r/\FnOk X.prog X.w X.K X.mg X.base (CXE X.prog X.w X.base) k f fd ps (uV X.K fl)/\Binds X.K fd ps []
structure Wz (s:WS):Prop where
 R:∀(Γ:Gw) (Z:Wc) (X:Cx) (r:Nat) (st:Stmt),Wok Γ Z (CXE X.prog X.w X.base) X r->Wfk Γ X r->(rz s=Z7->gc (model X.prog X.w) X.A X.env X.xe)->(rz s=Z7->yK X Z.E)->AZ Γ s st=Z7->PS X st (wS Z s)
 L:∀(Γ:Gw) (Z:Wc) (X:Cx) (r:Nat) (st:List Stmt),Wok Γ Z (CXE X.prog X.w X.base) X r->Wfk Γ X r->(rz s=Z7->gc (model X.prog X.w) X.A X.env X.xe)->(rz s=Z7->yK X Z.E)->wkL Γ s st=Z7->PSs X st (wS Z s)
 H:∀(Γ:Gw) (Z:Wc) (X:Cx) (r i:Nat) (nm B:Str) (b0:Stmt) (su:List Stmt) (np hp:Pos) (pins:List (Addr×Obj)) (Dn:Ends),Wok Γ Z (CXE X.prog X.w X.base) X r->Wfk Γ X r->Γ.g.xc=Z8->X.stack=X.env::X.outer->X.env.frame=Z9 X.env.locals->X.N[i]?=Z9 nm->X.env.scope.names.lookup ("":Str)=Z8->X.env.scope.names.lookup nm=Z9 .local->Xv nm->(Γ.g.N.set i "").Nodup->Gl X B->Xv B->wkH Γ s i nm B (b0::su)=Z7->∀σ H1 s1 C a H' s' dd,Inv X pins σ H1 s1->Fly X.prog X.w X.base X.stack H1 s1 C a H' s' dd->wX Z s Dn i σ.length (.ref C) dd H'->wpAny (model X.prog X.w) X.A (ja (.ref a) X.env) (λ_ s2=>wpAny (model X.prog X.w) X.A (j7 (.ref a) Z8) (λ_ s3=>wpAny (model X.prog X.w) X.A (o4 (.ref a) X.env [.ExceptHandler (Z9 (.Name B np)) (Z9 nm) (b0::su) hp]) (SP X pins Dn) X.xe s3) X.xe s2) X.xe s'
theorem Wz.x (h:∀Γ Z X r st,Wok Γ Z (CXE X.prog X.w X.base) X r->Wfk Γ X r->(rz s=Z7->gc (model X.prog X.w) X.A X.env X.xe)->(rz s=Z7->yK X Z.E)->AZ Γ s st=Z7->PS X st (wS Z s))(d:∀Γ st,wkL Γ s st=Z6)(e:∀Z D i n v dd b,¬wX Z s D i n v dd b):Wz s:=⟨h,λΓ Z X r st k f g hr z=>ff (d Γ st) z,λΓ Z X r i nm B m o p g c q k f a1 a2 a3 a4 t u y F G j l H J K C a b L dd I fl z=>(e _ _ _ _ _ _ _ z).elim⟩
theorem zgl {C:Addr}(hh:X.A.handled=Z8)(hg:Gl X x)(hm:X.mg x=Z9 (.ref C))(hdb:Xv x)(hC:exV X.K C=Z7)
  (rs:yK X E):PS X (.Raise (Z9 (.Call (.Name x np) [.Constant (.str z) kk kp] [] cp)) Z8 pos) (λ_ _ H=>E (.ref C) Z8 H):=by
 intro pins s σ H D I hq;obtain⟨bm,N,nm,q,bs,hdct,sn,sub,ab,col,dd,k0,k1,k2,k3,k5,mN,oC,hN,Ta,T⟩:=DG.mk I.mod.rT hC;refine wpAny_Raise_call_subT (nm:=nm) (q:=q) (N:=N) (bs:=bs) (hdct:=hdct) (sn:=sn) (sub:=sub) (ab:=ab) (col:=col) (dd:=dd) (k0:=k0) (k1:=k1) (k2:=k2) (k3:=k3) (k5:=k5) PySem.F.excBase_ValueError (T.hasType (X:="BaseException") rfl) hh rfl Ta (z44 I hg hm ⟨rfl,?_⟩ hdb);refine lb (aM ((zR (X:=X) (GS (x:=z) (j:=kk) (pos:=kp)) lD) cp pins s σ H (λvs H1=>vs.length=1/\H1=H) I ⟨rfl,rfl⟩) λus s1 zz=>?_);obtain⟨vs,H1,I1,r,hv,rfl⟩:=zz;have hl:us.length=1:=r.length▸hv;refine⟨rfl,by rw[hl];decide,I1.bk _ _ oC,hN.keeps I1.bk,T.keeps I1.bk,λh' a hx=>?_⟩;obtain⟨tp,ga,_,_⟩:=hx.there
 have hH:H1 a=none:=by
  cases e:H1 a with
  |none=>rfl
  |some o=>obtain⟨ob,q⟩:=Ja (I1.hok a o e);rw[hx.new]at q;cases q
 exact rs pins σ H1 {s1 with heap:=h'} a C _ _ (I1.kept hx.keeps) hH ⟨H1,s1,I1,hx.new⟩ ga rfl rfl rfl hq
theorem qU (h:a=Z7):(a||b)=true:=by rw[h];rfl
theorem qV (h:b=Z7):(a||b)=true:=by rw[h,oa]
theorem zjx {C D:Addr}(I:Inv X b f x y)(g:Fly X.prog X.w X.base X.stack x y C a E F dd)(hs:X.stack=X.env::X.outer)(hf:X.env.frame=Z9 X.env.locals)(G:X.fx=Z8)(nd:X.N.Nodup)(H:X.N[i]?=Z9 n)(J:X.env.scope.names.lookup ("":Str)=Z8)(L:X.env.scope.names.lookup n=Z9 .local)
  (M:X.mg B=Z9 (.ref D)) (O:gL X.K C=Z7) (P:gL X.K D=Z7) (Q:ZX X.K (.ref C) (.ref D)=Z9 Z7) (k:Gl X B) (l:Xv B)
  (m:∀d,d.cls=.ref C->PSs (jP X i n a d) (R::iK) T) (q:T ⟨λo p=>u.nx (o.set i Z8) p,u.rt,λ_ _=>False,λ_ _=>False⟩ (ay f.length Z8) E):
  wpAny (model X.prog X.w) X.A (ja (.ref a) X.env) (λ_ S=>wpAny (model X.prog X.w) X.A (j7 (.ref a) Z8) (λ_ U=>wpAny (model X.prog X.w) X.A (o4 (.ref a) X.env [.ExceptHandler (Z9 (.Name B np)) (Z9 n) (R::iK) hp]) (SP X b u) X.xe U) X.xe S) X.xe F:=by
 obtain⟨B0,r,s,t,Y⟩:=g.hh;have c:=Y;rw[hs]at c
 have e0:(ay f.length (Z8:Option V)).set i Z8=ay f.length none:=by
  apply gg;intro j;rw[du];split
  .rename_i h;subst h;split<;>simp_all
  .rfl
 refine zfb (λh6 w6 up=>?_) c (Jc g) hs hf G nd H J L M (yk O P Q) k l (λ_ _ z=>z) (λd ws h1 h2 h3=>m d h1) (e0▸q);exact(Fly.land I g r s t (hs▸w6) up).weak (by rw[b6]) λj v e=>by rw[cz]at e;split at e<;>cases e
theorem w_hn {rest:WS}(ih:Wz h)(ir:Wz rest):∀d Z X r i nm B t v S T b x,Wok d Z (CXE X.prog X.w X.base) X r->Wfk d X r->d.g.xc=Z8->X.stack=X.env::X.outer->X.env.frame=Z9 X.env.locals->X.N[i]?=Z9 nm->X.env.scope.names.lookup ("":Str)=Z8->X.env.scope.names.lookup nm=Z9 .local->Xv nm->(d.g.N.set i "").Nodup->Gl X B->Xv B->wkH d (.hn c f h rest) i nm B (t::v)=Z7->
  ∀E F G C a K M O,Inv X b E F G->Fly X.prog X.w X.base X.stack F G C a K M O->wX Z (.hn c f h rest) x i E.length (.ref C) O K->wpAny (model X.prog X.w) X.A (ja (.ref a) X.env) (λ_ s2=>wpAny (model X.prog X.w) X.A (j7 (.ref a) Z8) (λ_ s3=>wpAny (model X.prog X.w) X.A (o4 (.ref a) X.env [.ExceptHandler (Z9 (.Name B S)) (Z9 nm) (t::v) T]) (SP X b x) X.xe s3) X.xe s2) X.xe M:=by
 intro d Z X r i nm B t v S T b x k P j hs hf U V Q n hV l m W E F G C a K M O I Y z;obtain⟨c1,c2,c3,c4⟩:=bL W;rcases z with⟨C0,m0,e0,z⟩|z
 .cases e0;obtain⟨C',D,R,m2,x1,x2,sb⟩:=k.ck.xk.hV c B c1;rw[k.mm,R]at m0;cases m0;have o:X.N.Nodup:=k.ck.hN▸k.ck.nd;have hx:=k.ck.As j;cases f with
  |none=>refine zjx I Y hs hf hx o U V Q m2 x1 x2 sb l m (λs hc=>?_) z;exact ih.L (EM d i nm c Z8) _ (jP X i nm a s) r _ ⟨⟨k.kk,k.mm,k.fn,k.me,k.cl,k.gi,k.hf,k.md,k.mq⟩,k.ck.jP hV hc R,nofun,(λ_ _ _ _ _ _ _ z=>by obtain⟨_,_,_,_,_,_,z⟩:=z;exact z),nofun,AW⟩ P (λ_=>PassesOwn.never) (λ_ _ _ _ _ _ _ _ _ _ _ _ _ _ _ _ z=>z.elim) c3
  |some fl=>obtain⟨dp,y,rfl,hy,z⟩:=z;obtain⟨C2,f2,J',Xb,k2,n1,xf,_⟩:=P c fl c2;rw[R]at n1;cases n1;refine zl9 I Y hy hs hf hx o U V Q m2 x1 x2 sb l m (λod mA u s ws q1 q2 q3 q4 q5 q6=>?_) z;refine ih.L (EM d i nm c (Z9 fl)) _ (jP (kQ X ((dp,od)::X.pn) X.xe) i nm a s) r _ ⟨⟨k.kk,k.mm,k.fn,k.me,k.cl,k.gi,k.hf,k.md,k.mq⟩,(J2 k.ck j ((dp,od)::X.pn) X.xe).jP hV q4 R,nofun,(λ_ _ _ _ _ _ _ z=>by obtain⟨_,_,_,_,_,_,z⟩:=z;exact z),(λf z=>?_),AW⟩ P (λ_=>PassesOwn.never) (λ_ _ _ _ _ _ _ _ _ _ _ _ _ _ _ _ z=>z.elim) c3;cases z;refine⟨y,rfl,λn' c' e p q EE=>?_⟩;cases e;exact zqe (X:=jP (kQ X ((dp,od)::X.pn) X.xe) i nm a s) rfl Q n EE (λ_ _ _ _ J=>(J.pin (a,s) (ey _ bg)).1) q4 q6 q5 (λ_ _ _ _ J=>(J.pin (dp,od) (ey _ (bc _ bg))).1) q1 q2 q3 xf
 .exact ir.H d Z X r i nm B t v S T b x k P j hs hf U V Q n hV l m c4 E F G C a K M O I Y z
theorem Tb {st:Stmt}(R:Wz b)(S:Wz hs)(k:Wok m Z (CXE X.prog X.w X.base) X r)(N:Wfk m X r)(h:AZ m (.uW b hs i n) st=Z7):PS X st (wS Z (.uW b hs i n)):=by
 obtain⟨hn,h⟩:=aE h;obtain⟨⟨bd,B,nm,F⟩,T,U⟩:=aK h;obtain⟨O,o,pos,rfl⟩:=EL T;obtain⟨V,g,h3⟩:=aU U;obtain⟨a1,a2,a3,a4,a5⟩:=dF V;obtain⟨b1,b2,b3,b4,b5⟩:=dF g;obtain⟨c1,c2,c3⟩:=aU h3;obtain⟨a6,a7⟩:=aE a2;obtain⟨P,F,rfl⟩:=qF c1;obtain⟨g3,g4⟩:=k.ck.gl b2;obtain⟨s1,Q⟩:=k.ck.nY (cG a7);have p:=fq.mp a6;have t:=cG b3;intro c s σ H j I hq;refine wpAny_Try_except ?_;generalize hE:(λe x=>wpAny (model X.prog X.w) X.A (ja e X.env) (λ_ y=>wpAny (model X.prog X.w) X.A (j7 e Z8) (λ_ C=>wpAny (model X.prog X.w) X.A (o4 e X.env [.ExceptHandler (Z9 (.Name B O)) (Z9 nm) (P::F) o]) (SP X c j) X.xe C) X.xe y) X.xe x)=E
 have px:z2c (CXE X.prog X.w X.base) (kQ X (X.pn++c) E) (wX Z hs j i n):=λG d H1 J e s' I1 zz=>by
  obtain⟨a,C',dd,D,rfl,fl,q⟩:=zz;rw[<-hE];have l:=EI I.ok I1;have K:n=d.length:=by rw[l.len,k.ck.hN];simp_all
  rw[K]at q;exact S.H m Z X r i nm B P F O o c j k N p s1 Q (k.ck.hN▸uc a3) (k.ck.hs▸fq.mp b1) (k.ck.hs▸uc a4) (cG c2) (t8 a5) g3 g4 c3 d H1 J C' a D s' dd l fl q
 have wk:Wok m {Z with E:=wX Z hs j i n} (CXE X.prog X.w X.base) (kQ X (X.pn++c) E) r:=⟨⟨k.kk,k.mm,k.fn,k.me,k.cl,k.gi,k.hf,k.md,k.mq⟩,J2 k.ck p _ E,k.room,px,(λf z=>by rw[fq.mp b5]at z;cases z),AW⟩;refine aM ((R.L m _ (kQ X (X.pn++c) E) r bd wk N (λz=>by rw[t]at z;cases z) (λz=>by rw[t]at z;cases z) b4) [] s σ H ⟨j.nx,j.rt,λ_ _=>False,λ_ _=>False⟩ (S4 I E) hq) λM Q g=>?_;cases M with
 |next=>obtain⟨d,D,l,z⟩:=g;exact lm ⟨d,D,EI I.ok l,z⟩
 |brk=>obtain⟨_,_,_,z⟩:=g;exact z.elim
 |cont=>obtain⟨_,_,_,z⟩:=g;exact z.elim
 |ret u=>obtain⟨v,d,D,l,rv,z⟩:=g;exact⟨v,d,D,EI I.ok l,rv,z⟩
theorem Tc (s:WS):Wz s:=by
 induction s with
 |nil=>exact⟨λ_ _ _ _ _ _ _ _ _ h=>ff rfl h,λΓ Z X r st k kx hp hr h=>by cases fL h;exact G3,λΓ Z X r i nm B b0 su np hp pins Dn k kx a1 a2 a3 a4 a5 a6 a7 a8 a9 Td Te σ H1 s1 C a H' s' dd I fl z=>z.elim⟩
 |seq a b ia ib=>exact⟨λ_ _ _ _ _ _ _ _ _ h=>ff rfl h,λΓ Z X r st k kx hp hr h=>by
  cases st with
  |nil=>cases h
  |cons s st=>obtain⟨h1,h2⟩:=aE h;exact G4 (ia.R Γ Z X r _ k kx (λz=>hp (qU z)) (λz=>hr (qU z)) h1) (ib.L Γ Z X r _ k kx (λz=>hp (qV z)) (λz=>hr (qV z)) h2),λΓ Z X r i nm B b0 su np hp pins Dn k kx a1 a2 a3 a4 a5 a6 a7 a8 a9 Td Te σ H1 s1 C a H' s' dd I fl z=>z.elim⟩
 |asg i e=>exact Wz.x (λΓ Z X r st k kx hp hr h=>by
  obtain⟨⟨ts,v⟩,hv,h9⟩:=aK h;obtain⟨p,rfl⟩:=nZ hv;obtain⟨x,hx,h8⟩:=aK h9;cases fR hx;obtain⟨h1,h2,h3⟩:=aU h8;obtain⟨y,q,rfl,h5⟩:=kN h1;obtain⟨l1,l2,l3⟩:=k.ck.loc h5;cases hc:kI v with
  |false=>exact xP (k.ck.hN▸k.ck.nd) l1 l2 ((cR e).E Γ Z _ X r _ k h3) hc l3
  |true=>
   have h2:=h2;rw[hc]at h2;cases e<;>first|(cases h2;done)|skip
   rename_i c Tf;have hn:lN c=false:=cG h2;show PS X _ (lC (tD Z.K (aL Z.Κ Z.Φ c)) (rX i));rw[k.kk];exact S9 k.ck h5 hn h3) (λ_ _=>rfl) λ_ _ _ _ _ _ _ z=>z
 |fld o f e=>exact Wz.x (λΓ Z X r st k kx hp hr h=>by obtain⟨⟨ts,v⟩,hv,h9⟩:=aK h;obtain⟨p,rfl⟩:=nZ hv;obtain⟨x,hx,h8⟩:=aK h9;cases fR hx;obtain⟨⟨o',f',p'⟩,ho,h7⟩:=aK h8;cases lO ho;obtain⟨h1,h2,h3,h4⟩:=bL h7;have h1:=eqB h1;subst h1;show PS X _ (ue Z.K _ _ _);rw[k.kk];exact N2 ((cR o).E Γ Z _ X r _ k h3) ((cR e).E Γ Z _ X r _ k h4) (uq (cG h2) _ _ _)) (λ_ _=>rfl) λ_ _ _ _ _ _ _ z=>z
 |put o y v=>exact Wz.x (λΓ Z X r st k kx hp hr h=>by obtain⟨⟨ts,v⟩,hv,h9⟩:=aK h;obtain⟨p,rfl⟩:=nZ hv;obtain⟨x,hx,h8⟩:=aK h9;cases fR hx;obtain⟨w,ho,h7⟩:=aK h8;obtain⟨_,rfl⟩:=vY ho;obtain⟨h1,h2,h3,h4⟩:=bL h7;exact Qc (j0 (pv (by decide) _) k.ck.hu) ((cR o).E Γ Z _ X r _ k h2) ((cR y).E Γ Z _ X r _ k h3) ((cR _).E Γ Z _ X r _ k h4) (uq (cG h1) _ _ _)) (λ_ _=>rfl) λ_ _ _ _ _ _ _ z=>z
 |exp e=>exact Wz.x (λΓ Z X r st k kx hp hr h=>by obtain⟨v,hv,h9⟩:=aK h;obtain⟨p,rfl⟩:=oA hv;obtain⟨h1,h2⟩:=aE h9;exact nH ((cR e).E Γ Z _ X r _ k h2) (cG h1)) (λ_ _=>rfl) λ_ _ _ _ _ _ _ z=>z
 |app o e=>exact Wz.x (λΓ Z X r st k kx hp hr h=>by obtain⟨c,hv,h9⟩:=aK h;obtain⟨p,rfl⟩:=oA hv;obtain⟨⟨x,n,es,b⟩,hm,h8⟩:=aK h9;obtain⟨ap,cp,rfl,hb⟩:=jS hm;obtain⟨h0,h6,h7⟩:=aU h8;obtain⟨h1,h2,h3⟩:=aU h0;obtain⟨y,hy,h4⟩:=aK h7;cases fR hy;obtain⟨h4,h5⟩:=aE h4;have h1:=eqB h1;subst h1;show PS X _ (tW (Ci Z.K "list" zT _ _));rw[k.kk];exact nH (zl6 PySem.F.plainAttrs_list PySem.F.slot_list_append PySem.F.type_list_append Cj ((cR o).E Γ Z _ X r _ k h6) (eU ((cR e).E Γ Z _ X r _ k h5) lD (cG h4)) (nB h2) (z9u (by rw[db,h4];rfl) (show 1<20 by decide)) (hb.symm.trans h3) (eQ (cG h4)) (mJ rfl)) rfl) (λ_ _=>rfl) λ_ _ _ _ _ _ _ z=>z
 |yL o=>exact Wz.x (λΓ Z X r st k kx hp hr h=>by obtain⟨c,hv,h9⟩:=aK h;obtain⟨p,rfl⟩:=oA hv;obtain⟨⟨x,n,es,b⟩,hm,h8⟩:=aK h9;obtain⟨ap,cp,rfl,hb⟩:=jS hm;obtain⟨h0,h6,h7⟩:=aU h8;obtain⟨h1,h2,h3⟩:=aU h0;cases fL h7;have h1:=eqB h1;subst h1;show PS X _ (tW (mZ Z.K "list" zU _));rw[k.kk];exact nH (zik PySem.F.plainAttrs_list PySem.F.slot_list_clear PySem.F.type_list_clear Oz ((cR o).E Γ Z _ X r _ k h6) (nB h2) (hb.symm.trans h3)) rfl) (λ_ _=>rfl) λ_ _ _ _ _ _ _ z=>z
 |ret e=>exact Wz.x (λΓ Z X r st k kx hp hr h=>by obtain⟨o,hv,h9⟩:=aK h;obtain⟨p,rfl⟩:=yn hv;obtain⟨v,rfl,h8⟩:=aK h9;exact BX ((cR e).E Γ Z _ X r _ k h8)) (λ_ _=>rfl) λ_ _ _ _ _ _ _ z=>z
 |bN c a b ia ib=>exact Wz.x (λΓ Z X r st k kx hp hr h=>by obtain⟨v,hv,h9⟩:=aK h;obtain⟨p,rfl⟩:=yo hv;obtain⟨h1,h2,h3⟩:=aU h9;exact G5 ((cR c).T Γ Z _ X r _ k h1).1 (ia.L Γ Z X r _ k kx (λz=>hp (qU z)) (λz=>hr (qU z)) h2) (ib.L Γ Z X r _ k kx (λz=>hp (qV z)) (λz=>hr (qV z)) h3)) (λ_ _=>rfl) λ_ _ _ _ _ _ _ z=>z
 |yM c b ib=>exact Wz.x (λΓ Z X r st k kx hp hr h=>by obtain⟨⟨t,B,o⟩,hv,h9⟩:=aK h;obtain⟨p,rfl⟩:=yp hv;obtain⟨h1,h2,h3⟩:=aU h9;cases fL h3;exact G7 (hp rfl) ((cR c).T Γ Z _ X r _ k h1).1 (ib.L Γ Z X r _ k kx (λ_=>hp rfl) (λ_=>hr rfl) h2)) (λ_ _=>rfl) λ_ _ _ _ _ _ _ z=>z
 |bH t it b ib=>exact Wz.x (λΓ Z X r st k kx hp hr h=>by obtain⟨yP,h⟩:=aE h;obtain⟨⟨t',i,B,o⟩,hv,h9⟩:=aK h;obtain⟨p,rfl⟩:=qK hv;obtain⟨h1,h2,h3,h4⟩:=bL h9;obtain⟨h5,h6,h7⟩:=aU h1;cases fL h4;show PS X _ (jF (tDW Z.K _) (tDG Z.K _) _);rw[k.kk];exact zaj (hp rfl) (k.ck.calm yP) ((all it).W Γ.g X r _ _ k.ck h6 h2) (vZ k.ck h5) (ib.L Γ Z X r _ k kx (λ_=>hp rfl) (λ_=>hr rfl) h3) (wa h7 _)) (λ_ _=>rfl) λ_ _ _ _ _ _ _ z=>z
 |jI c=>exact Wz.x (λΓ Z X r st k kx hp hr h=>by obtain⟨⟨x,es⟩,hv,h9⟩:=aK h;obtain⟨np,cp,pos,rfl⟩:=yq hv;obtain⟨h1,h2,h3,h4,h5⟩:=dF h9;obtain⟨y,hy,h6⟩:=aK h5;cases fR hy;obtain⟨z,kk,p,rfl⟩:=RV h6;cases uc h1;obtain⟨g1,g2⟩:=k.ck.gl h2;obtain⟨C,m1,xC⟩:=k.ck.xk.rs x h3;exact PS.imp (zgl (k.room h4).hd g1 m1 g2 xC (hr rfl)) λD σ H q=>q C (k.mm▸m1)) (λ_ _=>rfl) λ_ _ _ _ _ _ _ z=>z
 |AY o f e=>exact Wz.x (λΓ Z X r st k kx hp hr h=>by obtain⟨⟨ts,v⟩,hv,h9⟩:=aK h;obtain⟨p,rfl⟩:=nZ hv;obtain⟨x,hx,h8⟩:=aK h9;cases fR hx;obtain⟨⟨o',f',p'⟩,ho,h7⟩:=aK h8;cases lO ho;obtain⟨h1,h2,h3,h4⟩:=bL h7;have h1:=eqB h1;subst h1;show PS X _ (EJ Z.K _ _ _);rw[k.kk];exact S5 ((cR o).E Γ Z _ X r _ k h3) ((cR e).E Γ Z _ X r _ k h4) (uq (cG h2) _ _ _)) (λ_ _=>rfl) λ_ _ _ _ _ _ _ z=>z
 |yN c fl e=>exact Wz.x (λΓ Z X r st k kx hp hr h=>by obtain⟨⟨x,es⟩,hv,h9⟩:=aK h;obtain⟨np,cp,pos,rfl⟩:=yq hv;obtain⟨h1,h2,h3,h4,h5⟩:=dF h9;obtain⟨y,hy,h6⟩:=aK h5;cases fR hy;obtain⟨h6,h7⟩:=aE h6;cases uc h1;obtain⟨g1,g2⟩:=k.ck.gl h2;obtain⟨C,f,fd,ps,n,m1,xf,xi,hn,F,hb⟩:=kx _ _ h3;exact PS.imp (zep ((k.room h4).mono hn) g1 m1 g2 xf xi F hb ((cR e).E Γ Z _ X r _ k h7) (cG h6) (hr rfl)) λD σ H q=>q C (k.mm▸m1)) (λ_ _=>rfl) λ_ _ _ _ _ _ _ z=>z
 |lS t it b ib=>exact Wz.x (λΓ Z X r st k kx hp hr h=>by obtain⟨yP,h⟩:=aE h;obtain⟨⟨t',i,B,o⟩,hv,h9⟩:=aK h;obtain⟨p,rfl⟩:=qK hv;obtain⟨h1,h2,h3,h4⟩:=bL h9;obtain⟨h5,h7⟩:=aE h1;cases fL h4;show PS X _ (jF (xp Z.K _) (tDG Z.K _) _);rw[k.kk];exact zaj (hp rfl) (k.ck.calm yP) (G' ((cR it).E Γ Z _ X r _ k h2)) (vZ k.ck h5) (ib.L Γ Z X r _ k kx (λ_=>hp rfl) (λ_=>hr rfl) h3) (wa h7 _)) (λ_ _=>rfl) λ_ _ _ _ _ _ _ z=>z
 |gB j it b ib=>exact Wz.x (λΓ Z X r st k kx hp hr h=>by obtain⟨yP,h⟩:=aE h;obtain⟨⟨t',i,B,o⟩,hv,h9⟩:=aK h;obtain⟨p,rfl⟩:=qK hv;obtain⟨h1,h2,h3,h4⟩:=bL h9;obtain⟨h5,h7⟩:=aE h1;cases fL h4;obtain⟨y,q,rfl,h5⟩:=kN h5;obtain⟨l1,l2,l3⟩:=k.ck.loc h5;show PS X _ (jF (xp Z.K _) (rX _) _);rw[k.kk];exact zaj (hp rfl) (k.ck.calm yP) (G' ((cR it).E Γ Z _ X r _ k h2)) (B1 (k.ck.hN▸k.ck.nd) l1 l2 l3) (ib.L Γ Z X r _ k kx (λ_=>hp rfl) (λ_=>hr rfl) h3) (wa h7 _)) (λ_ _=>rfl) λ_ _ _ _ _ _ _ z=>z
 |uW b hs i n ib ih=>exact Wz.x (λΓ Z X r st k kx hp hr h=>Tb ib ih k kx h) (λ_ _=>rfl) λ_ _ _ _ _ _ _ z=>z
 |hn c f h rest ih ir=>exact⟨λ_ _ _ _ _ _ _ _ _ h=>ff rfl h,λ_ _ _ _ _ _ _ _ _ h=>ff rfl h,w_hn ih ir⟩
section
variable {P:cu}{w:World}{K:Z5}{mg:Str->Option Value}{base:Heap}
theorem zp5 {Z:Wc}{st:Stmt}(M:∃B oc od kV j D an d ct l,fd=Z0 x h (z0m st) (z0e st) (z0a st) B kV j D an d ct/\K.lookup f=Z9 ⟨oc,od,.func fd,l⟩/\ZZ K d h=Z7)(p:FnScope b.g.N ps (z0a st))(hs:b.g.sc=z0a st)(r:b.g.xc=Z8)(m:Dok b.g Z.Κ Z.Φ P w K mg base k)(O:∀E,Zok b {Z with E:=E} (CXE P w base) P w K mg base k)(t:b.xf=Z8)(kf:b.fld=[]\/∀X,X.prog=P->X.w=w->X.K=K->X.mg=mg->X.base=base->Wfk b X k)(hc:wkL b s (z0e st)=Z7)
  (len:∀i H Q E,sp i H Q E->i.length=ps.length) (run:∀i H Q E,sp i H Q E->wS {Z with E:=E} s {nx:=λ_ u=>Q .aO u,rt:=Q} (start b.g.N i) H):
  FnOk P w K mg base (CXE P w base) (k+1) f fd ps sp:=by
 obtain⟨B,oc,od,kV,j,D,an,d,ct,l,rfl,R,v⟩:=M;refine zkz R v p len λA outer F H i Q E hr y=>⟨_,(Tc s).L b {Z with E:=E} (iF (CXE P w base) P w K mg base b.g.N h (z0a st) f d A outer F H E) k _ ⟨O E,⟨rfl,hs.symm,p.nd,λ_ _=>rfl,by rw[hs];exact p.kind,m.free,m.fns,m.cst,m.qH,λ_=>hr,λ_=>rfl,hr.units,λ_=>⟨rfl,rfl⟩,λ_=>rfl,λ_ _ z=>(by rw[r]at z;cases z),m.xk⟩,λ_=>hr,λn S G T e s' I U=>?_,(λf z=>by rw[t]at z;cases z),AW⟩ (kf.elim (λe c fl z=>by rw[e]at z;cases z) λg=>g _ rfl rfl rfl rfl rfl) (λ_=>PassesOwn.leaving) (λ_ n S G T a C ob i I V q2 q3 q4 q5 q6 q7=>?_) hc,run i H Q E y⟩
 .obtain⟨a,C,dd,u,rfl,fl,q⟩:=U;exact fl.leave (outer:=[]) I rfl rfl rfl λs3 fl=>⟨a,C,dd,u,rfl,fl,q⟩
 .obtain⟨H2,s4,I2,n2⟩:=q2;refine zc2 I ?_ V q3 q4 q5 q6 rfl rfl rfl λs3 fl=>⟨a,C,ob.dict,G,rfl,fl,q7⟩;cases e:(iF (CXE P w base) P w K mg base b.g.N h (z0a st) f d A outer F H E).s₀.heap.get? a with
  |none=>rfl
  |some o=>obtain⟨o',J⟩:=I2.base.there a o e (by show a∉ [];simp);rw[n2]at J;cases J
theorem EO {Z:Wc}{st:Stmt}(e:Fun K x d st f fd)(h:FnScope Γ.g.N ps (z0a st))(hs:Γ.g.sc=z0a st)(b:Γ.g.xc=Z8)(i:Dok Γ.g Z.Κ Z.Φ P w K mg base k)(j:∀E,Zok Γ {Z with E:=E} (CXE P w base) P w K mg base k)(c:Γ.xf=Z8)(kf:Γ.fld=[]\/∀X,X.prog=P->X.w=w->X.K=K->X.mg=mg->X.base=base->Wfk Γ X k)(hc:wkL Γ s (z0e st)=Z7)
 (len:∀a H Q E,sp a H Q E->a.length=ps.length) (run:∀a H Q E,sp a H Q E->wS {Z with E:=E} s {nx:=λ_ l=>Q .aO l,rt:=Q} (start Γ.g.N a) H):
 FnOk P w K mg base (CXE P w base) (k+1) f fd ps sp:=zp5 ⟨_,e.ex⟩ h hs b i j c kf hc len run
end
abbrev NoB:Ad->Prop:=λ_=>False
abbrev AnyB:Ad->Prop:=λ_=>True
abbrev F0 (H:Hp):Fm:=⟨H,λ_=>True,λ_=>Z8,True⟩
section
variable {K:Z5}{H H':Hp}
theorem Rep.old (r:Rep K H B v d):Rep K H (eJ (F0 H)) v d:=(Rep.there _ r).weak λa h=>by
 cases a with
 |none=>exact trivial
 |some a=>exact⟨λz=>h.2 z,trivial⟩
theorem qW (f:b.length=c.length)(h:∀(i:Nat) g (d:D),c[i]?=Z9 (Z9 (g,d))->g=G.od/\∃v B,b[i]?=Z9 (Z9 v)/\Rep K H B v d):StOk K (F0 H) H b c where
 ext:=Same.refl H
 aS:=λ_ _=>trivial
 own:=λa i e=>by cases e
 len:=f
 sl:=λi g d e=>by obtain⟨rfl,v,B,j,r⟩:=h i g d e;exact⟨v,j,r.old⟩
structure Crt (K:Z5)(CC:Addr)(H:Hp)(x dx d:Addr)(kvs:List (Key×V))(es:bA):Prop where
 ins:H x=Z9 (.ins CC dx [("aboves",.ref d)])
 fT:H d=Z9 (.dK kvs)
 re:aZ K H NoB kvs es
theorem Crt.same (c:Crt K a H x dx d kvs es)(s:Same H H'):Crt K a H' x dx d kvs es:=⟨s _ _ c.ins,s _ _ c.fT,c.re.same s λ_ z=>z⟩
theorem Crt.rep (c:Crt K CC H x dx d kvs es):Rep K H AnyB (.ref d) (.dict es):=⟨d,kvs,rfl,c.fT,trivial,c.re.same (Same.refl H) λ_ z=>z.elim⟩
def sZ:D->Bool
 |.str _=>Z7
 |_=>Z6
def stN (es:bA)(c:D):Bool:=sZ c&&(z0g es c).isSome
end
structure CrtK (K:Z5)(CC:Addr):Prop where
 cls:Cls K CC
 na:z23 K CC "aboves"
namespace Ct
abbrev AB:W:=.jA (.raw 0) "aboves"
abbrev LA:W:=.ix AB (.ix (.raw 2) (.aX (.neg (.int 1))))
def oH:WS:=.seq (.ret (.and (.aX (.fY (.var 1) ["str"])) (.cmp .In (.raw 1) AB))) .nil
def found:WS:=.seq (.bN (.wd (.not (.tp (.tv (.fY (.var 1) ["str"])))) (.tc .In (.raw 1) AB)) (.seq (.jI "NoCourt") .nil) .nil)
 (.seq (.bN (.iM (.ti Z7 (.raw 2)) (.not (.jV (.cC (.raw 0) 0 (.cons (.raw 2) .nil))))) (.seq (.jI "NoCourt") .nil) .nil)
 (.seq (.put AB (.raw 1) (.raw 2)) .nil))
def line:WS:=.seq (.bN (.not (.jV (.cC (.raw 0) 0 (.cons (.raw 1) .nil)))) (.seq (.jI "NoCourt") .nil) .nil)
 (.seq (.asg 2 (.lst (.cons (.raw 1) .nil)))
 (.seq (.yM (.ti Z7 LA) (.seq (.app (.raw 2) LA) .nil))
 (.seq (.ret (.raw 2)) .nil)))
def init:WS:=.seq (.fld (.raw 0) "aboves" .hG) (.seq (.bH (.tp [2,3]) (.tv (.var 1)) (.seq (.exp (.cC (.raw 0) 1 (.cons (.raw 2) (.cons (.raw 3) .nil)))) .nil)) .nil)
end Ct
section
variable {Z:Wc}{H:Hp}{x dx:Addr}{es:bA}
theorem yQ (ck:CrtK Z.K a)(c:Crt Z.K a H x dx d kvs es)(h0:b[0]?=Z9 (Z9 (.ref x)))(q:Q (.ref d) H):wE Z Ct.AB b H Q:=⟨.ref x,h0,x,a,dx,_,.ref d,rfl,c.ins,ck.cls,ck.na,rfl,q⟩
theorem Ka {x:V}{dx:D}(c:Rep Z.K H B x dx)(d:Rep Z.K H e y (.dict es))(f:iW dx=Z7)(q:∀a,Same H a->Q (.bl (z0g es dx).isSome) a):jN Z.K (mB (cmpD .In)) x y H Q:=⟨B,e,dx,.dict es,.bool (z0g es dx).isSome,c,d,by show((if iW dx=Z7 then Res.ok (z0g es dx).isSome else Res.no)>>=λb=>Res.ok (PyData.bool b))=_;rw[tw f];rfl,λw a s r=>by cases r;exact q a s⟩
theorem ER (h:sZ c=Z7):iW c=true:=by cases c<;>first|(cases h;done)|rfl
theorem Kb (h:ρ[i]?=Z9 (Z9 (.od,c))):aL Κ Φ (.fY (.var i) ["str"]) ρ=.ok (.fr,.bool (sZ c)):=by show(xU ρ[i]?>>=λx=>Res.ok (G.fr,PyData.bool (["str"].any λT=>jJ (hJ x.2) T)))=_;rw[h];cases c<;>rfl
theorem zbj (ck:CrtK Z.K h)(ct:Crt Z.K h H x dx d kvs es)(b:Rep Z.K H B v c)(q:∀f,Same H f->j.rt (.bl (stN es c)) f):
  wS Z Ct.oH j [Z9 (.ref x),Z9 v] H:=by
 refine⟨[Z8,Z9 (.od,c)],F0 H,_,qW rfl λi g o e=>?_,Kb rfl,λw k a l=>⟨sZ c,l,?_⟩⟩
 .rcases i with _|_|i<;>cases e;exact⟨rfl,v,B,rfl,b⟩
 .cases hc:sZ c with
  |false=>have:=q k a;unfold stN at this;rw[hc]at this;exact this
  |true=>refine⟨v,rfl,yQ ck (ct.same a) rfl (Ka (b.same a λ_ z=>z) (ct.same a).rep (ER hc) λm n=>?_)⟩;have:=q m (a.trans n);unfold stN at this;rw[hc]at this;exact this
def z3g (K:Z5)(CC:Addr):Sp:=λvs H Q _=>∃x dx d kvs es v c B,vs=[.ref x,v]/\Crt K CC H x dx d kvs es/\Rep K H B v c/\∀H',Same H H'->Q (.bl (stN es c)) H'
def A0:D->Bool
 |.none=>Z7
 |_=>Z6
def iN (es:bA)(c a:D):Bool:=sZ c&& !(z0g es c).isSome&&(A0 a||stN es a)
def z8z (K:Z5)(CC:Addr)(mg:Str->Option Value):Sp:=λvs H Q E=>∃x dx d kvs es vc va c a B,vs=[.ref x,vc,va]/\Crt K CC H x dx d kvs es/\Rep K H B vc c/\Rep K H B va a/\es.length<ba/\if iN es c a=Z7 then ∀H' uX,(∀b o,b≠d->H b=Z9 o->H' b=Z9 o)->Crt K CC H' x dx d uX (es++[(c,a)])->Q .aO H' else ∀C H',mg "NoCourt"=Z9 (.ref C)->Same H H'->E (.ref C) Z8 H'
theorem Rep.aO {K:Z5}(r:Rep K H B v a):decide (v=.aO)=A0 a:=by
 cases a with
 |none=>cases r;rfl
 |bool b=>cases r;rfl
 |int b=>cases r;rfl
 |str b=>obtain⟨rfl,_⟩:=r;rfl
 |tuple ds=>obtain⟨_,_,rfl,_⟩:=r;rfl
 |list ds=>obtain⟨_,_,rfl,_⟩:=r;rfl
 |dict ds=>obtain⟨_,_,rfl,_⟩:=r;rfl
theorem aZ.len {K:Z5}:∀{es:bA} {kvs:List (Key×V)},aZ K H B kvs es->kvs.length=es.length
 | [],kvs,r=>by cases r;rfl
 |e::es,kvs,r=>by obtain⟨k,v,t,rfl,_,_,_,r⟩:=r;rw[bh,bh,aZ.len r]
theorem Kc (h:(z0g es k).isSome=Z6):dput es k v=es++[(k,v)]:=by unfold dput;rw[tx];intro z;unfold z0g at h;rw[jb,rg.mpr (List.any_eq_true.mp z)]at h;cases h
theorem ES {C:Addr}(h:Z.me[j]?=Z9 (C,m,a)):wE Z (.cC o j as)=kG C m a [] Z.E (wE Z o) (wA Z as):=by show(match Z.me[j]? with|some r=>kG r.1 r.2.1 r.2.2 [] Z.E (wE Z o) (wA Z as)|none=>fN)=_;rw[h]
theorem zoz (hm:Z.me[0]?=Z9 (e,("stands":Str),z3g Z.K e))(ct:Crt Z.K e H x dx d kvs es)(h0:b[0]?=Z9 (Z9 (.ref x)))(f:b[i]?=Z9 (Z9 v))(g:Rep Z.K H B v c)(q:∀a,Same H a->Q (stN es c) a):
  wT Z (.jV (.cC (.raw 0) 0 (.cons (.raw i) .nil))) b H Q:=by
 show ED Z.K (wE Z (.cC _ 0 _)) b H Q;rw[ES hm];exact⟨.ref x,h0,x,dx,_,rfl,ct.ins,rfl,v,f,x,dx,d,kvs,es,v,c,B,rfl,ct,g,λa s=>⟨_,rfl,q a s⟩⟩
theorem zd4 (ck:CrtK Z.K y)(hm:Z.me[0]?=Z9 (y,("stands":Str),z3g Z.K y))(ct:Crt Z.K y H x dx d kvs es)(rc:Rep Z.K H B p c)(A:Rep Z.K H B l a)(I:es.length<ba)
  (q:if iN es c a=Z7 then ∀h t,(∀b o,b≠d->H b=Z9 o->h b=Z9 o)->Crt Z.K y h x dx d t (es++[(c,a)])->F.nx [Z9 (.ref x),Z9 p,Z9 l] h else ∀C h,Z.mg "NoCourt"=Z9 (.ref C)->Same H h->Z.E (.ref C) Z8 h):
  wS Z Ct.found F [Z9 (.ref x),Z9 p,Z9 l] H:=by
 have bad:iN es c a=Z6->∀h,Same H h->∀C,Z.mg "NoCourt"=Z9 (.ref C)->Z.E (.ref C) Z8 h:=λD h s C e=>by rw[tx (by rw[D];decide)]at q;exact q C h e s
 refine⟨[Z8,Z9 (.od,c),Z8],F0 H,sZ c,qW rfl λi g P e=>?_,?_,λJ u=>?_⟩
 .rcases i with _|_|_|i<;>cases e;exact⟨rfl,p,B,rfl,rc⟩
 .show(aL Z.Κ Z.Φ (.fY (.var 1) ["str"]) _>>=λx=>kK x.2)=_;rw[Kb rfl];rfl
 cases hc:sZ c with
 |false=>exact bad (by unfold iN;rw[hc];rfl) J u
 |true=>
  refine⟨p,rfl,yQ ck (ct.same u) rfl (Ka (rc.same u λ_ z=>z) (ct.same u).rep (ER hc) λG L=>⟨_,rfl,?_⟩)⟩;have f:=u.trans L;cases v:(z0g es c).isSome with
  |true=>exact bad (by unfold iN;rw[hc,v];rfl) G f
  |false=>
   refine⟨l,rfl,_,rfl,?_⟩
   have w:iN es c a=Z7->∀m,Same H m->imm a=Z7->wS Z (.seq (.put Ct.AB (.raw 1) (.raw 2)) .nil) F [Z9 (.ref x),Z9 p,Z9 l] m:=λD m n M=>by
    rw[tw D]at q;have j:=ct.same n;obtain⟨k,rfl,rfl,ok⟩:=yf (ER hc) rc;refine⟨l,rfl,yQ ck j rfl ⟨kV k,rfl,.inl ⟨d,_,rfl,.inl ⟨kvs,k,j.fT,rfl,by rw[aZ.len j.re];exact I,rfl⟩,?_⟩⟩⟩;refine q _ (putK kvs k l) (λb o N e=>by rw[aG N];exact n b o e) ⟨?_,bF,?_⟩
    .rw[aG]
     .exact j.ins
     .intro z;have:=j.ins;rw[z,j.fT]at this;cases this
    .have r:=aZ.put ok (Rep.aW a M (A.same n λ_ z=>z)) j.re;rw[Kc v]at r;refine aZ.keep (λb o e z=>?_) (λ_ z=>z) _ r;rw[aG]
     .exact e
     .rintro rfl
      rw[j.fT]at e;cases e;exact z.elim id id
   rw[show(!decide (l=V.aO))=!A0 a by rw[A.aO]];cases hn:A0 a with
   |true=>
    have O:a=.none:=by cases a<;>first|(cases hn;done)|rfl
    subst O;exact w (by unfold iN;rw[hc,v];rfl) G f rfl
   |false=>
    refine zoz hm (ct.same f) rfl rfl (A.same f λ_ z=>z) λm n=>?_;cases hs:stN es a with
    |true=>exact w (by unfold iN;rw[hc,v,hs,oa];rfl) m (f.trans n) (by unfold stN at hs;cases a<;>first|(cases hs;done)|rfl)
    |false=>exact bad (by unfold iN;rw[hc,v,hn,hs];rfl) m (f.trans n)
end
def eN (es:bA):Nat->Str->List Str
 |0,s=>[s]
 |n+1,s=>match z0g es (.str s)with
  |some (.str a)=>s::eN es n a
  |_=>[s]
def aR (es:bA):Nat->Str->Bool
 |0,s=>match z0g es (.str s)with
  |some .none=>Z7
  |_=>Z6
 |n+1,s=>match z0g es (.str s)with
  |some .none=>Z7
  |some (.str a)=>aR es n a
  |_=>Z6
def z5l (K:Z5)(CC:Addr)(mg:Str->Option Value):Sp:=λvs H Q E=>∃x dx d kvs es v c B,vs=[.ref x,v]/\Crt K CC H x dx d kvs es/\Rep K H B v c/\if stN es c=Z7 then ∃s n,c=.str s/\n<1000/\aR es n s=Z7/\∀H' p,Same H H'->H p=Z8->H' p=Z9 (.lst ((eN es n s).map V.str))->Q (.ref p) H' else ∀C H',mg "NoCourt"=Z9 (.ref C)->Same H H'->E (.ref C) Z8 H'
theorem ET {K:Z5}:∀{a:List Str},(∀s∈a,ZW s=Z7)->Reps K H B (a.map V.str) (a.map ZV)
 | [],_=>rfl
 |s::a,h=>⟨_,_,rfl,⟨rfl,h s bg⟩,ET λt b=>h t (bc _ b)⟩
theorem Th:dQ (.list ((a++[s]).map ZV)) (.int (-1))=.ok (.str s):=by
 show Res.eG (bT ((a++[s]).map ZV) (-1))=_
 have:bT ((a++[s]).map ZV) (-1)=Z9 (.str s):=by
  unfold bT gE;rw[tx dc,tw (by grind)];have e:((-1:Int)+((lj ZV (a++[s])).length:Int)).toNat=a.length:=by simp;omega
  rw[e];simp
 rw[this];rfl
theorem zkq (ck:CrtK Z.K k)(ct:Crt Z.K k H x dx d kvs es)(h0:a[0]?=Z9 (Z9 (.ref x)))(l:a[2]?=Z9 (Z9 (.ref p)))(m:H p=Z9 (.lst ((j++[s]).map V.str)))(n:∀t∈j++[s],ZW t=Z7)(e:z0g es (.str s)=Z9 w)(o:imm w=Z7)
  (q:∀b v,Same H b->Rep Z.K b NoB v w->Q v b):wE Z Ct.LA a H Q:=by
 refine yQ (Q:=λx c=>(kF (jO Z.K) (tU 2) (wE Z (.aX (.neg (.int 1))))) a c λy r=>jO Z.K x y r Q) ck ct h0 ⟨.ref p,l,ay a.length Z8,F0 H,(.fr,.int (-1)),qW (by rw[b6]) λi g A e=>?_,rfl,λB c f h=>?_⟩
 .rw[cz]at e;split at e<;>cases e
 .cases h;refine⟨AnyB,AnyB,.list ((j++[s]).map ZV),.int (-1),.str s,⟨p,_,rfl,.inl ⟨f _ _ m,trivial⟩,ET n⟩,rfl,Th,λC h=>?_⟩;refine⟨AnyB,AnyB,.dict es,.str s,w,(ct.same f).rep,h,?_,λu z=>q c u f (Rep.aW w o z)⟩
  .show(if iW (ZV s)=Z7 then Res.eG (z0g es (.str s))else .no)=_;rw[e];rfl
theorem zfx (ck:CrtK Z.K L)(hm:Z.me[0]?=Z9 (L,("stands":Str),z3g Z.K L))(ct:Crt Z.K L H x dx d kvs es)(X:Rep Z.K H B v c)
  (q:if stN es c=Z7 then ∃s n,c=.str s/\n<1000/\aR es n s=Z7/\∀f p,Same H f->H p=Z8->f p=Z9 (.lst ((eN es n s).map V.str))->D0.rt (.ref p) f else ∀C f,Z.mg "NoCourt"=Z9 (.ref C)->Same H f->Z.E (.ref C) Z8 f):
  wS Z Ct.line D0 [Z9 (.ref x),Z9 v,Z8] H:=by
 refine zoz hm ct rfl rfl X λO D=>?_;cases hs:stN es c with
 |false=>rw[tx (by rw[hs];decide)]at q;exact λC e=>q C O e D
 |true=>
  rw[tw hs]at q;obtain⟨s,n,rfl,hn,he,q⟩:=q;obtain⟨rfl,hok⟩:=X;refine⟨.str s,rfl,(cb▸(by decide:1<=16777216):[V.str s].length<=ba),λp M=>?_⟩;have G:=D.none M
  let T:=eN es n s
  let W:Nat->L2.St->Hp->Prop:=λm I f=>I=[Z9 (.ref x),Z9 (.str s),Z9 (.ref p)]/\∃F t,(∀b o,b≠p->O b=Z9 o->f b=Z9 o)/\f p=Z9 (.lst ((F++[t]).map V.str))/\(∀u∈F++[t],ZW u=Z7)/\aR es m t=Z7/\T=F++eN es m t/\F.length+m<=n
  have cH:∀f,(∀b o,b≠p->O b=Z9 o->f b=Z9 o)->Crt Z.K L f x dx d kvs es:=λf k=>by
   have P:=ct.same D;refine⟨k _ _ (Ne.symm (by rintro rfl;have:=(ct.same D).ins;rw[M]at this;cases this)) P.ins,k _ _ (Ne.symm (by rintro rfl;have:=(ct.same D).fT;rw[M]at this;cases this)) P.fT,aZ.keep (λb o e z=>k b o ?_ e) (λ_ z=>z) _ P.re⟩
   rintro rfl
   rw[M]at e;cases e
  refine⟨W,⟨n,rfl,[],s,λb o N e=>by rw[aG N];exact e,bF,λu hu=>by rw[az.mp hu];exact hok,he,rfl,by simp⟩,?_⟩
  rintro m I f ⟨rfl,F,t,Q,h,j,g,Y,hlen⟩
  have R:=cH f Q;have big:ba>3000:=by rw[cb];decide
  have look:(z0g es (.str t)=Z9 .none/\eN es m t=[t])\/∃a i,m=i+1/\z0g es (.str t)=Z9 (.str a)/\aR es i a=Z7/\eN es m t=t::eN es i a:=by
   cases m with
   |zero=>
    unfold aR at g;split at g
    .rename_i e9;exact .inl ⟨e9,rfl⟩
    .cases g
   |succ i=>
    unfold aR at g;split at g
    .rename_i e;refine .inl ⟨e,?_⟩;show(match z0g es (.str t)with|some (.str a)=>t::eN es i a|_=>[t])=_;rw[e]
    .rename_i a e;refine .inr ⟨a,i,rfl,e,g,?_⟩;show(match z0g es (.str t)with|some (.str a)=>t::eN es i a|_=>[t])=_;rw[e]
    .cases g
  rcases look with⟨el,y⟩|⟨a,i,rfl,el,S,y⟩
  .refine zkq ck R rfl rfl h j el rfl λA v l U=>⟨_,rfl,?_⟩;cases U;refine⟨.ref p,rfl,q A p (λb o e=>?_) G ?_⟩
   .refine l b o (Q b o ?_ (D b o e))
    rintro rfl;rw[G]at e;cases e
   .show A p=Z9 (.lst (T.map V.str));rw[Y,y];exact l _ _ h
  .have Xc:∀A,Same f A->∀v,Rep Z.K A NoB v (.str a)->v=.str a/\ZW a=true:=λA l v r=>r;refine zkq ck R rfl rfl h j el rfl λA v l U=>⟨_,rfl,?_⟩;obtain⟨rfl,J⟩:=U;refine⟨W i,λTi oG w=>⟨i,iu _,w⟩,?_⟩;refine⟨.ref p,rfl,?_,?_⟩
   .exact .inl ⟨rfl,_,.inl (.inl (l _ _ h))⟩
   .refine zkq ck (R.same l) rfl rfl (l _ _ h) j el rfl λH3 v s3 r3=>?_;obtain⟨rfl,_⟩:=r3;refine⟨p,_,.str a,rfl,rfl,s3 _ _ (l _ _ h),?_,rfl,F++[t],a,λb o N e=>?_,?_,λu hu=>?_,S,?_,?_⟩
    .simp;omega
    .rw[aG N];exact s3 b o (l b o (Q b o N e))
    .rw[bF];simp
    .rcases bu.mp hu with hu|hu
     .exact j u hu
     .rw[az.mp hu];exact J
    .rw[Y,y];simp
    .simp;omega
def z0n:bA->List D->Option bA
 |es,[]=>Z9 es
 |es,p::ps=>match p with
  |.tuple [c,a]=>if iN es c a then z0n (es++[(c,a)]) ps else Z8
  |_=>Z8
def isPr:D->Bool
 |.tuple [_,_]=>Z7
 |_=>Z6
def uY (K:Z5)(CC:Addr)(mg:Str->Option Value)(H:Hp)(x dx:Addr)(ps:List D)(Q:Hp->Prop)(E:XK):Prop:=
 match z0n [] ps with
 |some es=>∀H' d kvs,H d=Z8->(∀b o,b≠x->H b=Z9 o->H' b=Z9 o)->Crt K CC H' x dx d kvs es->Q H'
 |none=>∀C H',mg "NoCourt"=Z9 (.ref C)->(∀b o,b≠x->H b=Z9 o->H' b=Z9 o)->E (.ref C) Z8 H'
def zan (K:Z5)(CC:Addr)(mg:Str->Option Value):Sp:=λvs H Q E=>∃x dx vp ps B,vs=[.ref x,vp]/\H x=Z9 (.ins CC dx [])/\Rep K H B vp (.list ps)/\imms ps=Z7/\(ps.all isPr)=Z7/\ps.length<1000/\uY K CC mg H x dx ps (λH'=>Q .aO H') E
theorem zhs (ck:CrtK Z.K CC)(hm:Z.me[1]?=Z9 (CC,("found":Str),z8z Z.K CC Z.mg))(hx:H x=Z9 (.ins CC dx []))(rp:Rep Z.K H B vp (.list ps))(hi:imms ps=Z7)(hpr:(ps.all isPr)=Z7)(hz:ps.length<1000)
  (q:uY Z.K CC Z.mg H x dx ps (λH'=>∀σ',D0.nx σ' H') Z.E):wS Z Ct.init D0 [Z9 (.ref x),Z9 vp,Z8,Z8] H:=by
 refine λd hd=>?_;have A5:d≠x:=by rintro rfl;rw[hd]at hx;cases hx
 refine⟨.ref x,rfl,x,CC,dx,[],rfl,(aG (Ne.symm A5)▸hx),ck.cls,ck.na,by decide,?_⟩
 let H1:Hp:=upd (upd H d (.dK [])) x (.ins CC dx [("aboves",.ref d)])
 have k1:∀b o,b≠x->H b=Z9 o->H1 b=Z9 o:=λb o hb e=>by
  have:b≠d:=by rintro rfl;rw[hd]at e;cases e
  show upd _ _ _ _=_;rw[aG hb,aG this];exact e
 have c1:Crt Z.K CC H1 x dx d [] []:=⟨bF,by show upd _ _ _ _=_;rw[aG A5,bF],rfl⟩
 let F1:Fm:=⟨λb=>if b=d\/b=x then Z8 else H1 b,λ_=>True,λ_=>Z8,True⟩
 obtain⟨l,vs,rfl,hl,rs⟩:=rp;have EU:∀b,b≠d->b≠x->∀o,H1 b=Z9 o->eJ F1 (Z9 b):=λb h1 h2 o e=>by refine⟨?_,trivial⟩;show(if b=d\/b=x then Z8 else H1 b)≠Z8;rw[tx (λz=>z.elim h1 h2),e];intro z;cases z
 have rl:Rep Z.K H1 (eJ F1) (.ref l) (.list ps):=by
  have Ke:Reps Z.K H1 (eJ F1) vs ps:=Reps.hU (λa o e f=>k1 a o (by rintro rfl;rw[hx]at e;cases e;exact f) e) ps hi rs;rcases hl with⟨hl,_⟩|⟨hl,_⟩
  .have yR:l≠x:=by rintro rfl;rw[hl]at hx;cases hx
   exact⟨l,vs,rfl,.inl ⟨k1 l _ yR hl,EU l (by rintro rfl;rw[hl]at hd;cases hd) yR _ (k1 l _ yR hl)⟩,Ke⟩
  .refine⟨l,vs,rfl,.inr ⟨?_,trivial⟩,Ke⟩;rcases hl with⟨o,hl⟩|hl
   .have yR:l≠x:=by rintro rfl;rw[hl]at hx;cases hx
    exact .inl ⟨o,k1 l _ yR hl⟩
   .exact .inr hl
 have Ai:StOk Z.K F1 H1 [Z9 (.ref x),Z9 (.ref l),Z8,Z8] [Z8,Z9 (.od,.list ps),Z8,Z8]:=by
  refine⟨λa o e=>?_,λ_ _=>trivial,λa i e=>(by cases e),rfl,λi g d' e=>?_⟩
  .have e:(if a=d\/a=x then Z8 else H1 a)=Z9 o:=e;split at e
   .cases e
   .exact e
  .rcases i with _|_|_|_|i<;>cases e;exact⟨_,rfl,rl⟩
 refine⟨_,F1,(.od,ps),Ai,rfl,λJ B' H2 s2 hB wk=>?_⟩
 have kp:∀{H3:Hp},(∀b o,b≠d->H2 b=Z9 o->H3 b=Z9 o)->Kp B' H2 H3:=λ{H3} k b o e z=>k b o (by
  rintro rfl
  rcases z with z|z
  .exact(hB _ z).1.1 (by show(if b=b\/b=x then Z8 else H1 b)=Z8;rw[tw (.inl rfl)])
  .have :=s2 _ _ c1.fT;rw[e]at this;cases this;exact z) e
 let W:Nat->Nat->L2.St->Hp->Prop:=λi m σ' H'=>m=ps.length-i/\i<=ps.length/\σ'.length=4/\σ'[0]?=Z9 (Z9 (.ref x))/\(∀b o,b≠d->H2 b=Z9 o->H' b=Z9 o)/\∃kvs es,Crt Z.K CC H' x dx d kvs es/\es.length=i/\z0n es (ps.drop i)=z0n [] ps
 refine⟨W,⟨_,rfl,c9 _,rfl,rfl,λ_ _ _ e=>e,[],[],c1.same s2,rfl,rfl⟩,?_⟩
 rintro i m σ' H' ⟨rfl,Dz,EV,Tj,hk,kvs,es,ct,uZ,qX⟩
 have all1:∀H3,Same H' H3->∀b o,b≠x->H b=Z9 o->H3 b=Z9 o:=λH3 s3 b o hb e=>s3 b o (hk b o (by rintro rfl;rw[hd]at e;cases e) (s2 b o (k1 b o hb e)));by_cases yS:i<ps.length
 .refine .inr ⟨wk.go H' (kp hk) i yS,W (i+1) (ps.length-(i+1)),λtX H3 w=>⟨_,by omega,w⟩,λy H3 hy=>?_⟩;obtain⟨s3,p,hp,ry⟩:=wk.gY H' (kp hk) i y H3 yS hy;have DA:ps.drop i=p::ps.drop (i+1):=by rw[g8 yS];rw[ac yS]at hp;cases hp;rfl
  have EW:=cc.mp hpr p (aq hp)
  obtain⟨c,a,rfl⟩:∃c a,p=.tuple [c,a]:=by
   unfold isPr at EW;split at EW
   .exact⟨_,_,rfl⟩
   .cases EW
  refine⟨ay 4 Z8,F0 H3,(.od,.tuple [c,a]),[Z8,Z8,Z9 (z1f (gJ c .od,c)),Z9 (z1f (gJ a .od,a))],qW (by rw[EV,b6]) λj g d' e=>?_,ry.old,rfl,λTn F3 Kg Kh=>?_⟩
  .rw[cz]at e;split at e<;>cases e
  have sl:∀j e,([Z8,Z8,Z9 (z1f (gJ c .od,c)),Z9 (z1f (gJ a .od,a))]:Rho)[j]?=Z9 (Z9 (z1f (gJ e .od,e)))->∃v,Tn[j]?=Z9 (Z9 v)/\Rep Z.K H3 AnyB v e:=λj e h=>by
   have h9:∀g,z1f (g,e)=(.od,e)\/z1f (g,e)=(.al,e):=λg=>by cases g<;>first|exact .inl rfl|exact .inr rfl
   rcases h9 (gJ e .od)with h8|h8
   .rw[h8]at h;obtain⟨v,e1,r1⟩:=Kg.sl j _ _ h;exact⟨v,e1,Rep.weak (λ_ _=>trivial) r1⟩
   .rw[h8]at h;obtain⟨v,e1,r1⟩:=Kg.sl j _ _ h;exact⟨v,e1,Rep.weak (λ_ _=>trivial) r1⟩
  obtain⟨vc,To,rc⟩:=sl 2 c rfl;obtain⟨va,Tq,ra⟩:=sl 3 a rfl;have Ki:=(Kh.rest 0 dc).trans Tj;rw[DA]at qX;have qX:(if iN es c a=Z7 then z0n (es++[(c,a)]) (ps.drop (i+1))else Z8)=z0n [] ps:=qX;show wE Z (.cC _ 1 _) _ _ _;rw[ES hm];have big:ba>3000:=by rw[cb];decide
  refine⟨.ref x,Ki,x,dx,_,rfl,(ct.same s3).ins,rfl,vc,To,va,Tq,x,dx,d,kvs,es,vc,va,c,a,AnyB,rfl,ct.same s3,rc,ra,by omega,?_⟩;by_cases ho:iN es c a=Z7
  .rw[tw ho]at qX ⊢;intro H4 uX k4 Tr;exact⟨rfl,yS,Kh.len.trans EV,Ki,λb o hb e=>k4 b o hb (s3 b o (hk b o hb e)),uX,_,Tr,by rw[aw,uZ];rfl,qX⟩
  .rw[tx ho]at qX ⊢;intro C H4 hC s4;unfold uY at q;rw[<-qX]at q;exact q C H4 hC (all1 H4 (s3.trans s4))
 .have pB:i=ps.length:=by omega
  subst pB;refine .inl ⟨wk.stop H' (kp hk),?_⟩;rw[m5]at qX;unfold uY at q;rw[<-qX]at q;exact q H' d kvs hd (all1 H' (Same.refl _)) ct σ'
namespace Ct
end Ct
theorem wj (hen:aR es m t=Z7):(z0g es (.str t)=Z9 .none/\eN es m t=[t])\/∃a m',m=m'+1/\z0g es (.str t)=Z9 (.str a)/\aR es m' a=Z7/\eN es m t=t::eN es m' a:=by
 cases m with
 |zero=>
  unfold aR at hen;split at hen
  .rename_i e9;exact .inl ⟨e9,rfl⟩
  .cases hen
 |succ m'=>
  unfold aR at hen;split at hen
  .rename_i e9;refine .inl ⟨e9,?_⟩;show(match z0g es (.str t)with|some (.str a)=>t::eN es m' a|_=>[t])=_;rw[e9]
  .rename_i a e9;refine .inr ⟨a,m',rfl,e9,hen,?_⟩;show(match z0g es (.str t)with|some (.str a)=>t::eN es m' a|_=>[t])=_;rw[e9]
  .cases hen
structure lT where
 c:Str
 f:List Str
 ms:List (Str×Stmt)
def tE (K:Z5)(C:Addr)(c:Str)(m:Str×Stmt):Option (d5×Bool):=match Z4 K (.ref C) m.1 with
 |some (Z9 (.ref p))=>(match K.lookup p with
  |some ⟨_,_,.func fd,_⟩=>Z9 (fd,ZZ K fd.code (c++"."++m.1)&&Z2 K (.ref p)&&W.isFn K (.ref p))
  |_=>Z8)
 |_=>Z8
def Kj (c:Str)(m:Str×Stmt)(x:d5×Bool):d5×Bool:=(Z0 m.1 (c++"."++m.1) (z0m m.2) (z0e m.2) (z0a m.2) .none x.1.kwdefaults x.1.doc x.1.pyModule x.1.annotations x.1.code x.1.closureTuple,Z7)
def A6 (K:Z5)(r:lT):Option (List Bool×Option (Option Value)×List (Option (Option Value))×List Bool×List (Option (d5×Bool))):=match ZY K bt r.c with
 |some (Z9 (.ref C))=>Z9 ([W.plainGet K C Str.empty,W.hasDictIn K C,W.plainOver K C,W.makesIn K C,Z2 K (.ref C)],Z4 K (.ref C) "__setattr__",r.f.map (λf=>Z4 K (.ref C) f),r.ms.map (λm=>(tE K C r.c m).isSome),r.ms.map λm=>tE K C r.c m)
 |_=>Z8
def Kk (K:Z5)(r:lT):Option (List Bool×Option (Option Value)×List (Option (Option Value))×List Bool×List (Option (d5×Bool))):=match ZY K bt r.c with
 |some (Z9 (.ref C))=>Z9 ([Z7,Z7,Z7,Z7,Z7],Z9 (Z9 (.builtin "object.__setattr__")),r.f.map (λ_=>Z9 Z8),r.ms.map (λ_=>Z7),r.ms.map λm=>(tE K C r.c m).map (Kj r.c m))
 |_=>Z8
def KCq (K:eu->Z5)(r:lT):Prop:=∀P,((A6 (K P) r).isSome,A6 (K P) r)=(Z7,Kk (K P) r)
theorem KCq_r:KCq=KCq:=rfl
structure ClsAt (K:Z5)(r:lT)(C:Addr):Prop where
 ns:ZY K bt r.c=Z9 (Z9 (.ref C))
 cls:Cls K C
 na:∀f∈r.f,z23 K C f
 Kl:W.makesIn K C=Z7
 kp:Z2 K (.ref C)=Z7
 ms:∀m∈r.ms,∃f fd,Fun K m.1 (r.c++"."++m.1) m.2 f fd/\Meth K C m.1 f
theorem Ts {K:Z5}{C:Addr}(h:(tE K C c m).isSome=Z7)(e:tE K C c m=(tE K C c m).map (Kj c m)):∃f fd,Fun K m.1 (c++"."++m.1) m.2 f fd/\Meth K C m.1 f:=by
 cases z:tE K C c m with
 |none=>rw[z]at h;cases h
 |some x=>
  rw[z]at e;have e:=tz e;unfold tE at z;split at z
  .rename_i f hf;split at z
   .rename_i oc od fd sl hl;have z:=tz z;have z1:=congrArg nc z;have z2:=congrArg tq z;rw[congrArg tq e]at z2;obtain⟨z3,z4⟩:=au.mp z2;obtain⟨z3,z5⟩:=au.mp z3;subst z1;exact⟨f,x.1,⟨⟨oc,od,x.1.kwdefaults,x.1.doc,x.1.pyModule,x.1.annotations,x.1.code,x.1.closureTuple,sl,congrArg nc e,hl,z3⟩,z5⟩,hf,z4,z5⟩
   .cases z
  .cases z
theorem Km {K:eu->Z5}(h:KCq K r)(P:eu):∃C,ClsAt (K P) r C:=by
 obtain⟨a,b⟩:=t0 (h P);unfold A6 Kk at b;unfold A6 at a;split at b
 .rename_i C c;obtain⟨a1,a2⟩:=t0 (tz b);obtain⟨a2,a3⟩:=t0 a2;obtain⟨a3,a4⟩:=t0 a3;obtain⟨a4,d⟩:=t0 a4;obtain⟨e,a1⟩:=List.cons.inj a1;obtain⟨g,a1⟩:=List.cons.inj a1;obtain⟨i,a1⟩:=List.cons.inj a1;obtain⟨j,a1⟩:=List.cons.inj a1;obtain⟨k,_⟩:=List.cons.inj a1;exact⟨C,c,⟨e,g,i,a2⟩,λf hf=>dh.mp a3 f hf,j,k,λm hm=>Ts (dh.mp a4 m hm) (dh.mp d m hm)⟩
 .rename_i hn;split at a
  .rename_i C c;simp_all
  .cases a
end Mi
name_quick tkcq for Mi.KCq by Mi.KCq_r
namespace Mi
open PySem PySem.Spec PyProof.Rows L2
structure oI where
 c:Str
 fl:Str
 B:Str
 cs:List (Str×Bool)
 st:Stmt
abbrev XD:=List Bool×List (Option (Option Value))×List (Option Bool)×List (Option (Bool×Option Value×Option Bool))×d5
def Kn (K:Z5)(A:Addr)(y:Str×Bool):Option (Bool×Option Value×Option Bool):=match ZY K bt y.1 with
 |some (Z9 (.ref E))=>Z9 ((W.clsIn K E).isSome,W.typeIn K (.ref E),ZX K (.ref A) (.ref E))
 |_=>Z8
def tF (K:Z5)(r:oI):Option XD:=match ZY K bt r.c,ZY K bt r.B with
 |some (Z9 (.ref A)),Z9 (Z9 (.ref D))=>(match K.lookup A with
  |some ⟨.type "type",_,.cls cd,_⟩=>(match ZY K cd.ns "__init__"with
   |some (Z9 (.ref f))=>(match K.lookup f with
    |some ⟨_,_,.func fd,_⟩=>Z9 ([gL K A,cd.hasDict,W.isFn K (.ref f),ZZ K fd.code (r.c++"."++"__init__"),gL K D,(W.clsIn K A).isSome,Z2 K (.ref f)],
     [Z4 K (.ref A) "__setattr__",Z4 K (.ref A) r.fl,Z4 K (.ref A) "__getattribute__",Z4 K (.ref A) "__getattr__",Z4 K (.ref A) "__class__"],
     [ZX K (.ref A) (.type "object"),ZX K (.ref A) (.type "BaseException"),ZX K (.ref A) (.type "ValueError"),ZX K (.ref A) (.ref D)],r.cs.map (Kn K A),fd)
    |_=>Z8)
   |_=>Z8)
  |_=>Z8)
 |_,_=>Z8
def Kq (r:oI)(x:XD):XD:=([Z7,Z7,Z7,Z7,Z7,Z7,Z7],[Z9 (Z9 (.builtin "object.__setattr__")),Z9 Z8,Z9 (Z9 (.builtin "BaseException.__getattribute__")),Z9 Z8,Z9 (Z9 (.builtin "object.__class__"))],[Z9 Z7,Z9 Z7,Z9 Z7,Z9 Z7],r.cs.map (λy=>Z9 (Z7,Z9 (.type "type"),Z9 y.2)),Z0 "__init__" (r.c++"."++"__init__") (z0m r.st) (z0e r.st) (z0a r.st) .none x.2.2.2.2.kwdefaults x.2.2.2.2.doc x.2.2.2.2.pyModule x.2.2.2.2.annotations x.2.2.2.2.code x.2.2.2.2.closureTuple)
def Kr (K:Z5)(g:Str×Int):Option Int:=match ZY K bt g.1 with
 |some (Z9 (.int n _))=>Z9 n
 |_=>Z8
def KXq (K:eu->Z5)(rs:List oI)(gs:List (Str×Int)):Prop:=∀P,(rs.map (λr=>(tF (K P) r).isSome),rs.map (λr=>tF (K P) r),gs.map (Kr (K P)))=(rs.map (λ_=>Z7),rs.map (λr=>(tF (K P) r).map (Kq r)),gs.map λg=>Z9 g.2)
theorem KXq_r:KXq=KXq:=rfl
structure XAt (K:Z5)(r:oI)(A D f:Addr)(fd:d5):Prop where
 ns:ZY K bt r.c=Z9 (Z9 (.ref A))
 nb:ZY K bt r.B=Z9 (Z9 (.ref D))
 xf:XF K A r.fl
 xa:XA K A
 xi:XI K A f
 fu:Fun K "__init__" (r.c++"."++"__init__") r.st f fd
 ed:gL K D=Z7
 sd:ZX K (.ref A) (.ref D)=Z9 Z7
 sv:ZX K (.ref A) (.type "ValueError")=Z9 Z7
 cs:∀y∈r.cs,∃E,ZY K bt y.1=Z9 (Z9 (.ref E))/\(W.clsIn K E).isSome=Z7/\W.typeIn K (.ref E)=Z9 (.type "type")/\ZX K (.ref A) (.ref E)=Z9 y.2
theorem Tu {K:Z5}(h:(tF K r).isSome=Z7)(e:tF K r=(tF K r).map (Kq r)):∃A D f fd,XAt K r A D f fd:=by
 cases z:tF K r with
 |none=>rw[z]at h;cases h
 |some x=>
  rw[z]at e;have e:=tz e;unfold tF at z;split at z
  .rename_i A D p s;split at z
   .rename_i R cd sl d;split at z
    .rename_i f hf;split at z
     .rename_i oc od fd g i;have z:=tz z;rw[<-z]at e;obtain⟨a,e⟩:=t0 e;obtain⟨b,e⟩:=t0 e;obtain⟨c,e⟩:=t0 e;obtain⟨t,u⟩:=t0 e;obtain⟨m,a⟩:=List.cons.inj a;obtain⟨v,a⟩:=List.cons.inj a;obtain⟨w,a⟩:=List.cons.inj a;obtain⟨B,a⟩:=List.cons.inj a;obtain⟨C,a⟩:=List.cons.inj a;obtain⟨F,a⟩:=List.cons.inj a;obtain⟨G,_⟩:=List.cons.inj a;obtain⟨H,b⟩:=List.cons.inj b;obtain⟨I,b⟩:=List.cons.inj b;obtain⟨n,b⟩:=List.cons.inj b;obtain⟨o,b⟩:=List.cons.inj b;obtain⟨J,_⟩:=List.cons.inj b;obtain⟨d1,c⟩:=List.cons.inj c;obtain⟨d2,c⟩:=List.cons.inj c;obtain⟨L,c⟩:=List.cons.inj c;obtain⟨d4,_⟩:=List.cons.inj c;refine⟨A,D,f,fd,p,s,⟨m,λj k l q=>by rw[d]at q;cases q;exact v,H,I,n,o,d1,d2⟩,⟨J,n,o,d1,d2,?_,F,m⟩,⟨λj k l q=>by rw[d]at q;cases q;exact hf,w⟩,⟨⟨oc,od,fd.kwdefaults,fd.doc,fd.pyModule,fd.annotations,fd.code,fd.closureTuple,g,u,i,B⟩,G⟩,C,d4,L,λy M=>?_⟩
      .show(K.lookup A).map (·.cls)=_;rw[d];rfl
      .have q:=dh.mp t y M;unfold Kn at q;split at q
       .rename_i E N;obtain⟨O,q⟩:=t0 (tz q);obtain⟨P,Q⟩:=t0 q;exact⟨E,N,O,P,Q⟩
       .cases q
     .cases z
    .cases z
   .cases z
  .cases z
theorem Tv {K:eu->Z5}(h:KXq K rs b)(P:eu):(∀r∈rs,∃A D f fd,XAt (K P) r A D f fd)/\∀g∈b,∃t,ZY (K P) bt g.1=Z9 (Z9 (.int g.2 t)):=by
 obtain⟨c,a⟩:=t0 (h P);obtain⟨a,d⟩:=t0 a;refine⟨λr hr=>Tu (dh.mp c r hr) (dh.mp a r hr),λg i=>?_⟩;have q:=dh.mp d g i;unfold Kr at q;split at q
 .rename_i n t e;cases q;exact⟨t,e⟩
 .cases q
end Mi
name_quick tkxq for Mi.KXq by Mi.KXq_r
namespace Mi
open PySem PySem.Spec PyProof.Rows L2
def tG (K:Z5)(c:Str)(m:Str×Stmt):Option (d5×Bool×List Value):=match ZY K bt c with
 |some (Z9 (.ref C))=>(match Z4 K (.ref C) m.1 with
  |some (Z9 (.ref p))=>(match K.lookup p with
   |some ⟨_,_,.func fd,_⟩=>(match fd.defaults with
    |.ref T=>(match K.lookup T with
     |some ⟨_,_,.seq items _,_⟩=>Z9 (fd,ZZ K fd.code (c++"."++m.1)&&Z2 K (.ref p)&&W.isFn K (.ref p),items.toList)
     |_=>Z8)
    |_=>Z8)
   |_=>Z8)
  |_=>Z8)
 |_=>Z8
def EX (c:Str)(m:Str×Stmt)(x:d5×Bool×List Value):d5×Bool×List Value:=(Z0 m.1 (c++"."++m.1) (z0m m.2) (z0e m.2) (z0a m.2) x.1.defaults x.1.kwdefaults x.1.doc x.1.pyModule x.1.annotations x.1.code x.1.closureTuple,Z7,[.none])
def KDq (K:eu->Z5)(c:Str)(ms:List (Str×Stmt)):Prop:=∀P,(ms.map (λm=>(tG (K P) c m).isSome),ms.map (λm=>tG (K P) c m))=(ms.map (λ_=>Z7),ms.map λm=>(tG (K P) c m).map (EX c m))
theorem KDq_r:KDq=KDq:=rfl
structure FunD (K:Z5)(x qual:Str)(st:Stmt)(T f:Addr)(fd:d5):Prop where
 ex:∃(oc:Value) (od:Option Addr) (kV doc pm:Value) (an:Option Addr) (cdv ct:Value) (osl:Array (Option Value)),fd=Z0 x qual (z0m st) (z0e st) (z0a st) (.ref T) kV doc pm an cdv ct/\K.lookup f=Z9 ⟨oc,od,.func fd,osl⟩/\ZZ K cdv qual=Z7
 kp:Z2 K (.ref f)=Z7
 df:∃oc od n osl,K.lookup T=Z9 ⟨oc,od,.seq #[.none] n,osl⟩
theorem Tw {K:Z5}{C:Addr}(q:ZY K bt c=Z9 (Z9 (.ref C)))(h:(tG K c m).isSome=Z7)(e:tG K c m=(tG K c m).map (EX c m)):∃T f fd,FunD K m.1 (c++"."++m.1) m.2 T f fd/\Meth K C m.1 f:=by
 cases z:tG K c m with
 |none=>rw[z]at h;cases h
 |some x=>
  rw[z]at e;have e:=tz e;unfold tG at z;rw[q]at z
  dsimp only at z
  split at z
  .rename_i f hf;split at z
   .rename_i oc od fd sl r;split at z
    .rename_i T s;split at z
     .rename_i a b items n d g;have z:=tz z;have t:=congrArg nc z;have k:=congrArg (·.2.1) z;have o:=congrArg (·.2.2) z;have i:=congrArg nc e;rw[congrArg (·.2.1) e]at k;rw[congrArg (·.2.2) e]at o;obtain⟨j,u⟩:=au.mp k;obtain⟨j,p⟩:=au.mp j;subst t
      have v:items=#[.none]:=by
       cases items with
       |mk l=>cases o;rfl
      subst v;unfold EX at i;rw[s]at i;exact⟨T,f,x.1,⟨⟨oc,od,x.1.kwdefaults,x.1.doc,x.1.pyModule,x.1.annotations,x.1.code,x.1.closureTuple,sl,i,r,j⟩,p,a,b,n,d,g⟩,hf,u,p⟩
     .cases z
    .cases z
   .cases z
  .cases z
theorem Tz {K:eu->Z5}(h:KDq K c ms)(P:eu){C:Addr}(a:ZY (K P) bt c=Z9 (Z9 (.ref C))):∀m∈ms,∃T f fd,FunD (K P) m.1 (c++"."++m.1) m.2 T f fd/\Meth (K P) C m.1 f:=λm hm=>by obtain⟨b,d⟩:=t0 (h P);exact Tw a (dh.mp b m hm) (dh.mp d m hm)
section
variable {K:Z5}{x qual:Str}{st:Stmt}{T f:Addr}{fd:d5}{ps:List Str}
theorem FunD.binds (F:FunD K x qual st T f fd)
  (h:∀kV doc pm an cdv ct us,us.length+1=ps.length->∃k,jg (Z0 x qual (z0m st) (z0e st) (z0a st) (.ref T) kV doc pm an cdv ct) ⟨us,[]⟩=kt (.ref T)>>=k/\k (Z9 #[.none])=pure (ps.zip (us++[.none]))):Binds K fd ps [.none]:=λs us hK hl=>by
 obtain⟨oc,od,kV,doc,pm,an,cdv,ct,osl,rfl,lk,Xd⟩:=F.ex;obtain⟨Xe,Xf,n,TB,hT⟩:=F.df;obtain⟨k,h1,h2⟩:=h kV doc pm an cdv ct us (by rw[<-hl,aw];rfl);exact W.binds_K hK rfl hT rfl h1 h2
theorem FunD.kbinds (F:FunD K x qual st T f fd)(m:ps≠[])
  (h:∀kV c i an d ct e w,e.length+1=ps.length->∃k,jg (Z0 x qual (z0m st) (z0e st) (z0a st) (.ref T) kV c i an d ct) ⟨e,[(o,w)]⟩=kt (.ref T)>>=k/\k (Z9 #[.none])=pure (ps.zip (e++[w]))):KBinds K fd ps [o] kwG kwG where
 to:=λs e j p g=>by
  obtain⟨oc,od,kV,c,i,an,d,ct,q,rfl,E,v⟩:=F.ex;have no:([]:List Value).length=ps.length->False:=λz=>m (mz.mp z.symm)
  match j,g with
  | [],g=>exact(no g).elim
  | [w],g=>obtain⟨y,A,n,l,B⟩:=F.df;obtain⟨k,C,D⟩:=h kV c i an d ct e w (by rw[<-g];show _=(e++[w]).length;rw[aw];rfl);exact W.binds_K p rfl B rfl C D
  |_::_::_,g=>exact(no g).elim
 rel:=λ{G e H j} r rz=>by
  cases rz with
  |nil=>exact .nil
  |cons a t=>
   cases t with
   |nil=>exact r.append (.cons a .nil)
   |cons b u=>exact .nil
end
end Mi
name_quick tkdq for Mi.KDq by Mi.KDq_r
namespace Mi
open PySem PySem.Spec PyProof.Rows L2
section
variable {K:Z5}
theorem Reps.EY (h:H l=Z9 (.lst d))(r:Reps K H NoB b c):Reps K (upd H l (.lst f)) NoB b c:=
 Reps.keep (λa o e z=>by
  rw[aG]
  .exact e
  .rintro rfl
   rw[h]at e;cases e;exact z.elim id id) (λ_ z=>z) _ r
theorem zfj {I:Type}{L:List I}{e:I->D}{p:I->Bool}{f:I->D}{g:TG}{tc:TT}{te:TE}{O:L2.St->L2.St}{Q:VK}(R:Walk K J B E (L.map e))
  (one:∀a∈L,∀v r (N:Hp->Prop) M,Same E r->Rep K r B v (e a)->(p a=Z6->∀h,Same r h->N h)->(p a=Z7->∀y h,Same r h->Rep K h NoB y (f a)->M y h)->g v (O σ) r λj S=>fX (O σ) j/\tc j S λb F=>if b=Z7 then te j F M else N F)
  (q:∀l Z h,E l=Z8->Same E h->h l=Z9 (.lst Z)->Reps K h NoB Z ((L.filter p).map f)->Q (.ref l) h):
  ∀l,E l=Z8->∃P:Nat->Nat->List V->Hp->Prop,(∃m,P 0 m [] (upd E l (.lst [])))/\∀i m c n,P i m c n->(J.stop i n/\Q (.ref l) n)\/(J.go i n/\c.length<ba/\∃N:List V->Hp->Prop,(∀s h,N s h->∃m',m'<m/\P (i+1) m' s h)/\∀x r,J.gY i n x r->g x (O σ) r λj S=>fX (O σ) j/\tc j S λb F=>if b=Z7 then te j F λy H6=>H6 l=Z9 (.lst c)/\N (c++[y]) (upd H6 l (.lst (c++[y])))else N c F):=by
 intro l T
 let P:Nat->Nat->List V->Hp->Prop:=λi m c n=>m=L.length-i/\i<=L.length/\Same E n/\n l=Z9 (.lst c)/\Reps K n NoB c (((L.take i).filter p).map f)
 refine⟨P,⟨_,rfl,c9 _,Same.upd T,bF,rfl⟩,?_⟩
 rintro i m c n ⟨rfl,hi,u,t,G⟩
 have U:(L.map e).length=L.length:=ae ..;by_cases k:i<L.length
 .have W:c.length<ba:=by
   have h1:=G.length;have h2:=R.len;rw[ae]at h1;have h3:=cn p (L.take i);rw[eh]at h3;omega
  have tk:L.take (i+1)=L.take i++[L[i]]:=by rw[kg,ac k];rfl
  refine .inr ⟨R.go n (Kp.of u) i (U▸k),W,P (i+1) (L.length-(i+1)),λs h w=>⟨_,by omega,w⟩,λx r hy=>?_⟩;obtain⟨A,d,hd,rx⟩:=R.gY n (Kp.of u) i x r (U▸k) hy;rw[ao,ac k]at hd;cases hd;refine one L[i] (fv k) x r _ _ (u.trans A) rx (λX h C=>?_) λX y h C ry=>?_
  .refine⟨rfl,k,u.trans (A.trans C),C _ _ (A _ _ t),?_⟩;rw[tk,gz,gk (by rw[X];decide),om,dw];exact G.same (A.trans C) λ_ z=>z
  .have H:=C _ _ (A _ _ t);refine⟨H,rfl,k,λb o eb=>?_,bF,?_⟩
   .rw[aG (bR eb T)];exact C b o (A b o (u b o eb))
   .rw[tk,gz,gj X,cj];exact Reps.EY H ((G.same (A.trans C) λ_ z=>z).append (Reps.cons ry rfl))
 .have Y:i=L.length:=by omega
  subst Y;refine .inl ⟨by rw[<-U];exact R.stop n (Kp.of u),q l c n T u t ?_⟩;rw[gw]at G;exact G
theorem zck (r:Rep K H B v d)(b:i<σ.length)
  (q:∀a w,a.length=σ.length->a[i]?=Z9 (Z9 w)->Rep K H AnyB w d->(∀j,j≠i->a[j]?=σ[j]?)->Q a H):tDG K (.nm i) v σ H Q:=by
 refine⟨ay σ.length Z8,F0 H,(.od,d),(ay σ.length Z8).set i (Z9 (z1f (.od,d))),qW (by rw[b6]) λj g l e=>?_,r.old,rfl,λa m so kp=>?_⟩
 .rw[cz]at e;split at e<;>cases e
 .have c:((ay σ.length Z8).set i (Z9 (z1f (G.od,d))))[i]?=Z9 (Z9 (z1f (G.od,d))):=by
   rw[cq];rw[b6];exact b
  obtain⟨w,f,h⟩:=so.sl i _ _ c;exact q a w kp.len f (h.weak λ_ _=>trivial) λj k=>kp.rest j (by simpa[tgIx]using k)
theorem zvv (r:Rep K H B v (.tuple [a,b]))(hi:i<σ.length)(hj:j<σ.length)(hij:i≠j)
  (q:∀σ' u w,σ'.length=σ.length->σ'[i]?=Z9 (Z9 u)->σ'[j]?=Z9 (Z9 w)->Rep K H AnyB u a->Rep K H AnyB w b->(∀k,k≠i->k≠j->σ'[k]?=σ[k]?)->Q σ' H):tDG K (.tp [i,j]) v σ H Q:=by
 have h9:∀g e,z1f (g,e)=(.od,e)\/z1f (g,e)=(.al,e):=λg e=>by cases g<;>first|exact .inl rfl|exact .inr rfl
 refine⟨ay σ.length Z8,F0 H,(.od,.tuple [a,b]),((ay σ.length Z8).set i (Z9 (z1f (gJ a .od,a)))).set j (Z9 (z1f (gJ b .od,b))),qW (by rw[b6]) λj g d' e=>?_,r.old,rfl,λσ' F' so kp=>?_⟩
 .rw[cz]at e;split at e<;>cases e
 .have sl:∀k e g,(((ay σ.length Z8).set i (Z9 (z1f (gJ a .od,a)))).set j (Z9 (z1f (gJ b .od,b))))[k]?=Z9 (Z9 (z1f (g,e)))->∃v,σ'[k]?=Z9 (Z9 v)/\Rep K H AnyB v e:=fun k e g h=>by
   rcases h9 g e with h8|h8
   .rw[h8]at h;obtain⟨v,e1,r1⟩:=so.sl k _ _ h;exact⟨v,e1,r1.weak λ_ _=>trivial⟩
   .rw[h8]at h;obtain⟨v,e1,r1⟩:=so.sl k _ _ h;exact⟨v,e1,r1.weak λ_ _=>trivial⟩
  obtain⟨u,e1,r1⟩:=sl i a _ (by rw[b9 (Ne.symm hij),cq];rw[b6];exact hi);obtain⟨w,e2,r2⟩:=sl j b _ (by rw[cq];rw[cw,b6];exact hj);exact q σ' u w kp.len e1 e2 r1 r2 λk h1 h2=>kp.rest k (by simpa[tgIx]using⟨h1,h2⟩)
end
section
variable {Z:Wc}{σ:L2.St}{H:Hp}
theorem wm:StOk Z.K (F0 H) H σ (ay σ.length Z8):=qW (by rw[b6]) λi g d e=>by rw[cz]at e;split at e<;>cases e
theorem kR (q:∀a,Same H a->Q (.int n) a):wE Z (.aX (.int n)) σ H Q:=⟨_,F0 H,(.fr,.int n),wm,rfl,λv b c r=>by cases r;exact q b c⟩
theorem A8 (q:∀H',Same H H'->Q .aO H'):wE Z (.aX .aO) σ H Q:=⟨_,F0 H,(.fr,.none),wm,rfl,λv H1 s1 r=>by cases r;exact q H1 s1⟩
theorem jC (d:ZW x=Z7)(q:∀a,Same H a->Q (.str x) a):wE Z (.aX (.str x)) σ H Q:=⟨_,F0 H,(.fr,.str x),wm,rfl,λv b c r=>by cases r.1;exact q b c⟩
theorem mP {K:Z5}(d:Rep K H B x dx)(f:Rep K H B' y dy)(e:cmpD c dx dy=.ok b)(q:∀a,Same H a->Q (.bl b) a):jN K (mB (cmpD c)) x y H Q:=⟨B,B',dx,dy,.bool b,d,f,by show(cmpD c dx dy>>=λb=>Res.ok (PyData.bool b))=_;rw[e];rfl,λw a s r=>by cases r;exact q a s⟩
theorem gC {K:Z5}(a:Rep K H B x dx)(e:dQ dx (.int i)=.ok d)(q:∀w,Rep K H B w d->Q w H):jO K x (.int i) H Q:=⟨B,AnyB,dx,.int i,d,a,rfl,e,q⟩
theorem tH (h:Z.fn[j]?=Z9 (spD Z.K n m))(q:wA Z as σ H λa b=>spD Z.K n m a b Q Z.E):wE Z (.gO j as) σ H Q:=by show(match Z.fn[j]? with|some c=>oZ c [] Z.E (wA Z as)|none=>fN) σ H Q;rw[h];show wA Z as σ H λa b=>spD Z.K n m (a++[]) b Q Z.E;simpa only[dw]using q
theorem TC (h:Z.xf=Z9 y)(q:Q y H):wE Z (.kA f) σ H Q:=by show(match Z.xf with|some v=>(λ_ H Q=>Q v H:TE)|none=>fN) σ H Q;rw[h];exact q
theorem Ks (so:StOk Z.K (F0 H) H σ ρ)(e:aL Z.Κ Z.Φ c ρ=.ok (g,d))(q:∀v H',Same H H'->Rep Z.K H' AnyB v d->Q v H'):wE Z (.aX c) σ H Q:=⟨ρ,F0 H,(g,d),so,e,λv H' s r=>q v H' s (r.weak λ_ _=>trivial)⟩
theorem TF (so:StOk Z.K (F0 H) H σ a)(e:eA Z.Κ Z.Φ c a=.ok b)(q:∀d,Same H d->R b d):wT Z (.tp c) σ H R:=⟨a,F0 H,b,so,e,q⟩
theorem gP (q:wE Z a σ H λx c=>wE Z b σ c λy d=>jO Z.K x y d Q):wE Z (.ix a b) σ H Q:=q
theorem EZ (q:wE Z a σ H λx c=>wE Z b σ c λy d=>xE Z.K x y d Q):wE Z (.qQ a b) σ H Q:=q
theorem E1 (q:wE Z a σ H λx c=>wE Z b σ c λy d=>jN Z.K (mB (cmpD e)) x y d Q):wE Z (.cmp e a b) σ H Q:=q
theorem aI (q:wE Z a σ H λx b=>wA Z r σ b λc d=>R (x::c) d):wA Z (.cons a r) σ H R:=q
theorem bJ (q:R [] H):wA Z .nil σ H R:=q
theorem aF (e:σ[i]?=Z9 (Z9 v))(q:Q v H):wE Z (.raw i) σ H Q:=⟨v,e,q⟩
theorem wo (q:wE Z a σ H λx c=>wE Z b σ c λy d=>jN Z.K (mB (cmpD e)) x y d λz f=>∃k,z=.bl k/\R k f):wT Z (.tc e a b) σ H R:=q
theorem Kt (q:wT Z a σ H λc d=>if c=Z7 then wT Z b σ d R else R Z6 d):wT Z (.iM a b) σ H R:=q
theorem u1 (q:wE Z a σ H λx b=>∃k,mW Z.K x b k/\R k b):wT Z (.jV a) σ H R:=q
theorem Ku (q:wE Z a σ H λx d=>∃c,x=.bl c/\if c=Z7 then wE Z b σ d Q else Q (.bl Z6) d):wE Z (.and a b) σ H Q:=q
theorem lU (q:wA Z xs σ H λvs H1=>vs.length<=ba/\∀p,H1 p=Z8->Q (.ref p) (upd H1 p (.tup vs))):wE Z (.tup xs) σ H Q:=q
theorem wq (q:wA Z c σ H λa b=>a.length<=ba/\∀p,b p=Z8->Q (.ref p) (upd b p (.lst a))):wE Z (.lst c) σ H Q:=q
theorem TH {C:Addr}(h:Z.mq[j]?=Z9 (C,m,c))(q:wE Z o σ H λx b=>∃a dx fs,x=.ref a/\b a=Z9 (.ins C dx fs)/\fs.lookup m=Z8/\wA Z as σ b λd e=>wE Z k σ e λz f=>c (x::(d++[z])) f Q Z.E):wE Z (.wg o j as k) σ H Q:=by show(match Z.mq[j]? with|some r=>yF r.1 r.2.1 r.2.2 Z.E (wE Z o) (wA Z as) (wE Z k)|none=>fN) σ H Q;rw[h];exact q
theorem fE {C:Addr}(h:Z.me[j]?=Z9 (C,m,c))(q:wE Z o σ H λx b=>∃a dx fs,x=.ref a/\b a=Z9 (.ins C dx fs)/\fs.lookup m=Z8/\wA Z as σ b λd e=>c (x::(d++[])) e Q Z.E):wE Z (.cC o j as) σ H Q:=by rw[ES h];exact q
theorem TJ {C:Addr}(h:Z.md[j]?=Z9 (C,m,a)):wE Z (.qR o j as)=kG C m a [.aO] Z.E (wE Z o) (wA Z as):=by show(match Z.md[j]? with|some r=>kG r.1 r.2.1 r.2.2 [.aO] Z.E (wE Z o) (wA Z as)|none=>fN)=_;rw[h]
theorem E2 {C:Addr}(h:Z.md[j]?=Z9 (C,m,c))(q:wE Z o σ H λx b=>∃a dx fs,x=.ref a/\b a=Z9 (.ins C dx fs)/\fs.lookup m=Z8/\wA Z as σ b λd e=>c (x::(d++[.aO])) e Q Z.E):wE Z (.qR o j as) σ H Q:=by rw[TJ h];exact q
theorem Kv (q:wE Z it σ H (EB Z.K en λJ H1=>∀l,H1 l=Z8->∃P:Nat->Nat->List V->Hp->Prop,(∃m,P 0 m [] (upd H1 l (.lst [])))/\∀i m acc H2,P i m acc H2->(J.stop i H2/\Q (.ref l) H2)\/(J.go i H2/\acc.length<ba/\∃N:List V->Hp->Prop,(∀iG H',N iG H'->∃m',m'<m/\P (i+1) m' iG H')/\∀x H3,J.gY i H2 x H3->tDG Z.K t x (fH nt js σ) H3 λiH H4=>fX (fH nt js σ) iH/\wT {Z with E:=λ_ _ _=>False,xf:=Z8} c iH H4 λb H5=>if b=Z7 then wE {Z with E:=λ_ _ _=>False,xf:=Z8} e iH H5 λy H6=>H6 l=Z9 (.lst acc)/\N (acc++[y]) (upd H6 l (.lst (acc++[y])))else N acc H5))):wE Z (.lc nt js N' t en it c e) σ H Q:=q
end
mutual
theorem E3:∀(d:av) (n:Nat),bE n d=Z7->PyData.eqv d d=Z7
 |.none,_,_=>rfl
 |.bool b,_,_=>by cases b<;>rfl
 |.int i,_,_=>by rw[PyData.eqv];exact ua rfl
 |.str s,_,_=>by rw[PyData.eqv];exact beq_self_eq_true s
 |.tuple xs,0,h=>by cases h
 |.list xs,0,h=>by cases h
 |.tuple xs,n+1,h=>by rw[PyData.eqv];exact u7 xs n h
 |.list xs,n+1,h=>by rw[PyData.eqv];exact u7 xs n h
 |.dict es,n,h=>by cases n<;>cases h
theorem u7:∀(ds:List av) (n:Nat),fZ n ds=Z7->PyData.eqvAll ds ds=Z7
 | [],_,_=>rfl
 |d::ds,n,h=>by obtain⟨h1,h2⟩:=au.mp h;rw[PyData.eqvAll,E3 d n h1,u7 ds n h2];rfl
end
theorem yT (h:bE 40 d=Z7):cmpD .NotEq d d=.ok false:=by show(if(bE 40 d&&bE 40 d)=Z7 then Res.ok (!gI d d)else Res.no)=_;rw[h,show gI d d=Z7 from E3 d 40 h];rfl
abbrev En:=Str×Str×D
def jD (e:En):D:=.tuple [.str e.1,.str e.2.1,e.2.2]
structure Hd where
 es:bA
 en:List En
 ft:List (List D)
 ld:Option Int
def Hd.at (h:Hd)(k:Nat):En:=h.en.getD k ("","",.none)
def Hd.fa (h:Hd)(k:Nat):List D:=h.ft.getD k []
def TK:Option Int->D
 |none=>.none
 |some n=>.int n
structure Ha where
 dx:Addr
 c:Addr
 dc:Addr
 d:Addr
 le:Addr
 lf:Addr
 kvs:List (Key×V)
 as:List Addr
def Ha.own (A:Ha)(x:Addr)(b:Addr):Prop:=b=x\/b=A.d\/b=A.le\/b=A.lf\/b∈A.as
def yU (K:Z5)(H:Hp)(as:List Addr)(ft:List (List D)):Prop:=as.length=ft.length/\∀(k:Nat) a,as[k]?=Z9 a->∃ws,H a=Z9 (.lst ws)/\Reps K H NoB ws (ft.getD k [])
structure Hou (K:Z5)(HC CC:Addr)(H:Hp)(x:Addr)(A:Ha)(h:Hd):Prop where
 ins:∃vd,H x=Z9 (.ins HC A.dx [("courts",.ref A.c),("entries",.ref A.le),("fates",.ref A.lf),("last_day",vd)])/\Rep K H NoB vd (TK h.ld)
 cH:Crt K CC H A.c A.dc A.d A.kvs h.es
 ent:∃vs,H A.le=Z9 (.lst vs)/\Reps K H NoB vs (h.en.map jD)
 kS:H A.lf=Z9 (.lst (A.as.map V.ref))
 dM:yU K H A.as h.ft
 nd:A.as.Nodup
 n1:A.le≠A.lf
 n2:A.le∉A.as
 n3:A.lf∉A.as
section
variable {K:Z5}{HC CC:Addr}{H H':Hp}{x:Addr}{A:Ha}{h:Hd}
theorem yU.keep (f:yU K H as ft)(c:∀a∈as,∀o,H a=Z9 o->H' a=Z9 o)(d:∀a o,H a=Z9 o->Fix o->H' a=Z9 o):yU K H' as ft:=⟨f.1,λk a e=>by obtain⟨g,h,r⟩:=f.2 k a e;exact⟨g,c a (aq e) _ h,Reps.keep (λb o e z=>d b o e (z.resolve_left id)) (λ_ z=>z) _ r⟩⟩
theorem Hou.keep (t:Hou K HC CC H x A h)(d:∀b o,A.own x b\/b=A.c->H b=Z9 o->H' b=Z9 o)(g:∀a o,H a=Z9 o->Fix o->H' a=Z9 o):Hou K HC CC H' x A h:=by have f:∀a o,H a=Z9 o->(NoB (Z9 a)\/Fix o)->H' a=Z9 o:=λb o e z=>g b o e (z.resolve_left id);obtain⟨i,j,k⟩:=t.ins;obtain⟨l,m,n⟩:=t.ent;exact⟨⟨i,d _ _ (.inl (.inl rfl)) j,Rep.keep f (λ_ z=>z) _ k⟩,⟨d _ _ (.inr rfl) t.cH.ins,d _ _ (.inl (.inr (.inl rfl))) t.cH.fT,aZ.keep f (λ_ z=>z) _ t.cH.re⟩,⟨l,d _ _ (.inl (.inr (.inr (.inl rfl)))) m,Reps.keep f (λ_ z=>z) _ n⟩,d _ _ (.inl (.inr (.inr (.inr (.inl rfl))))) t.kS,t.dM.keep (λa p o e=>d a o (.inl (.inr (.inr (.inr (.inr p))))) e) g,t.nd,t.n1,t.n2,t.n3⟩
theorem Hou.same (t:Hou K HC CC H x A h)(s:Same H H'):Hou K HC CC H' x A h:=t.keep (λb o _ e=>s b o e) λa o e _=>s a o e
theorem Hou.hW (t:Hou K HC CC H x A h):Rep K H AnyB (.ref A.le) (.list (h.en.map jD)):=by obtain⟨a,b,c⟩:=t.ent;exact⟨_,a,rfl,.inl ⟨b,trivial⟩,c.weak λ_ z=>z.elim⟩
theorem Hou.u9 (t:Hou K HC CC H x A h):Rep K H AnyB (.ref A.lf) (.list (h.ft.map .list)):=by refine⟨_,_,rfl,.inl ⟨t.kS,trivial⟩,An (by rw[ae,ae];exact t.dM.1) λi v d b c=>?_⟩;rw[ao]at b c;obtain⟨a,e,rfl⟩:=bp.mp b;obtain⟨f,hf,rfl⟩:=bp.mp c;obtain⟨g,j,r⟩:=t.dM.2 i a e;rw[aa,hf]at r;exact⟨a,g,rfl,.inl ⟨j,trivial⟩,r.weak λ_ z=>z.elim⟩
end
structure dN where
 G:D->Prop
 sd:List D->D->Bool
 ag:D->D->Bool
 s0:∀f,sd f .none=(f.length==1)
 dy:D->Bool
 d0:dy .none=Z7
 sh:∀r,G r->bE 39 r=Z7
def vb:D->Bool
 |.tuple [.str _,.int _,.str _]=>Z7
 |.tuple [.str _,.int _,.int _]=>Z7
 |_=>Z6
theorem ve (h:vb r=Z7):(∃s n x,r=.tuple [.str s,.int n,x]/\imm x=Z7)/\imm r=Z7/\bE 39 r=true:=by
 cases r<;>try (cases h;done)
 rename_i l;rcases l with _|⟨a,_|⟨b,_|⟨c,_|_⟩⟩⟩<;>try (cases h;done)
 all_goals cases a<;>try (cases h;done)
 all_goals cases b<;>try (cases h;done)
 all_goals cases c<;>first|exact⟨⟨_,_,_,rfl,rfl⟩,rfl,rfl⟩|cases h
def oJ (f:List D):Prop:=1<=f.length/\f.length<=2/\∀r∈f,vb r=Z7
theorem Kw (h:oJ f):imms f=true:=pS.mpr λr i=>(ve (h.2.2 r i)).2.1
theorem E4 (h:oJ f):bE 40 (.list f)=true:=pA.mpr λr i=>(ve (h.2.2 r i)).2.2
def ln (es:bA)(s:Str):List Str:=eN es 999 s
def z1j (es:bA)(s:Str):Bool:=stN es (.str s)&&aR es 999 s
structure Hok (φ:dN)(h:Hd):Prop where
 len:h.ft.length=h.en.length
 big:h.en.length<=1000
 gd:∀e∈h.en,φ.G e.2.2/\imm e.2.2=Z7/\z1j h.es e.1=Z7
 fo:∀f∈h.ft,oJ f
section
variable (φ:dN)
def lV (h:Hd)(w:Str)(dy:D):List Nat:=(bw h.en.length).filter λk=>((h.at k).2.1==w)&&φ.sd (h.fa k) dy
def stg (h:Hd)(s w:Str)(dy:D):List Nat:=(lV φ h w dy).filter λk=>(ln h.es s).contains (h.at k).1
def fll (h:Hd)(s w:Str)(r:D):List Nat:=(lV φ h w .none).filter λk=>!((h.at k).1==s)&&(ln h.es (h.at k).1).contains s&&φ.ag (h.at k).2.2 r
def bar (h:Hd)(s w:Str)(r:D):Option Nat:=(stg φ h s w .none).find? λk=>φ.ag (h.at k).2.2 r
end
def oK (ks:List Nat):List V:=ks.map λ(k:Nat)=>V.int (k:Int)
def z0o (ks:List Nat):List D:=ks.map λ(k:Nat)=>ZU (k:Int)
theorem qY {K:Z5}:∀{ks:List Nat},Reps K H B (oK ks) (z0o ks)
 | []=>rfl
 |k::ks=>Reps.cons rfl qY
theorem yV {K:Z5}:∀{ks:List Nat} {a:List V},Reps K H B a (z0o ks)->a=oK ks
 | [],_,r=>r
 |k::ks,_,r=>by obtain⟨v,t,rfl,b,c⟩:=r;rw[yV c,show v=V.int k from b];rfl
structure HouK (K:Z5)(HC:Addr):Prop where
 cls:Cls K HC
 a1:z23 K HC "courts"
 a2:z23 K HC "entries"
 a3:z23 K HC "fates"
 a4:z23 K HC "last_day"
namespace Hs
abbrev CO:W:=.jA (.raw 0) "courts"
abbrev EN:W:=.jA (.raw 0) "entries"
abbrev FA:W:=.jA (.raw 0) "fates"
def about:WS:=.seq (.ret (.lc 2 [0,1,2] ["k","entry","self","word","day"] (.tp [0,1]) Z7 EN (.iM (.tc .Eq (.ix (.raw 1) (.aX (.int 1))) (.raw 3)) (.jV (.gO 0 (.cons (.ix (.jA (.raw 2) "fates") (.raw 0)) (.cons (.raw 4) .nil))))) (.raw 0))) .nil
def gQ:WS:=.seq (.ret (.lc 1 [0] ["k","self"] (.nm 0) Z6 (.raw 1) .nil (.ix (.ix (.jA (.raw 1) "entries") (.raw 0)) (.aX (.int 2))))) .nil
def iO:WS:=.seq (.asg 4 (.cC CO 0 (.cons (.raw 1) .nil))) (.seq (.ret (.lc 1 [0,4] ["k","self","line"] (.nm 0) Z6 (.cC (.raw 0) 1 (.cons (.raw 2) (.cons (.raw 3) .nil))) (.tc .In (.ix (.ix (.jA (.raw 1) "entries") (.raw 0)) (.aX (.int 0))) (.raw 2)) (.raw 0))) .nil)
def iP:WS:=.seq (.asg 4 (.ix EN (.raw 1))) (.seq (.ret (.and (.cmp .NotEq (.ix (.raw 4) (.aX (.int 0))) (.raw 2)) (.and (.cmp .In (.raw 2) (.cC CO 0 (.cons (.ix (.raw 4) (.aX (.int 0))) .nil))) (.gO 0 (.cons (.ix (.raw 4) (.aX (.int 2))) (.cons (.raw 3) .nil)))))) .nil)
def oM:WS:=.seq (.ret (.lc 1 [0,1,3] ["k","self","court","made"] (.nm 0) Z6 (.cC (.raw 0) 0 (.cons (.raw 2) (.cons (.aX .aO) .nil))) (.jV (.cC (.raw 1) 1 (.cons (.raw 0) (.cons (.raw 2) (.cons (.raw 3) .nil))))) (.raw 0))) .nil
def fO:WS:=.seq (.exp (.cC CO 0 (.cons (.raw 1) .nil))) .nil
def gR:WS:=.seq (.exp (.cC (.raw 0) 0 (.cons (.raw 2) .nil))) (.seq (.bN (.iM (.ti Z7 (.jA (.raw 0) "last_day")) (.tc .Lt (.raw 1) (.jA (.raw 0) "last_day"))) (.seq (.jI "Late") .nil) .nil) .nil)
def eE:WS:=.seq (.asg 4 (.qR (.raw 0) 0 (.cons (.raw 1) (.cons (.raw 2) .nil))))
 (.seq (.asg 5 (.gO 0 (.cons (.cC (.raw 0) 0 (.cons (.raw 4) .nil)) (.cons (.raw 3) .nil))))
 (.seq (.bN (.ti Z7 (.raw 5)) (.seq (.yN "NotAllowed" "by" (.ix (.raw 4) (.raw 5))) .nil) .nil) .nil))
end Hs
section
variable {h:Hd}
theorem tI (hk:HouK Z.K HC)(t:Hou Z.K HC CC H x A h)(h0:σ[i]?=Z9 (Z9 (.ref x)))(q:Q (.ref A.le) H):wE Z (.jA (.raw i) "entries") σ H Q:=by obtain⟨vd,i1,_⟩:=t.ins;exact⟨.ref x,h0,x,HC,A.dx,_,.ref A.le,rfl,i1,hk.cls,hk.a2,rfl,q⟩
theorem wt (a:HouK Z.K b)(t:Hou Z.K b d H x A h)(h0:σ[i]?=Z9 (Z9 (.ref x)))(q:Q (.ref A.lf) H):wE Z (.jA (.raw i) "fates") σ H Q:=by obtain⟨e,c,_⟩:=t.ins;exact⟨.ref x,h0,x,b,A.dx,_,.ref A.lf,rfl,c,a.cls,a.a3,rfl,q⟩
theorem A9 (a:HouK Z.K b)(t:Hou Z.K b e H x A h)(h0:σ[i]?=Z9 (Z9 (.ref x)))(q:Q (.ref A.c) H):wE Z (.jA (.raw i) "courts") σ H Q:=by obtain⟨f,d,_⟩:=t.ins;exact⟨.ref x,h0,x,b,A.dx,_,.ref A.c,rfl,d,a.cls,a.a1,rfl,q⟩
theorem Hd.get (a:k<h.en.length):h.en[k]?=Z9 (h.at k):=by unfold Hd.at;rw[aa,ac a];rfl
theorem Hd.fP (a:k<h.ft.length):h.ft[k]?=Z9 (h.fa k):=by unfold Hd.fa;rw[aa,ac a];rfl
theorem tJ {k:Nat}(e:a[k]?=Z9 d):dQ (.list a) (.int k)=.ok d:=by
 have b:=(ax.mp e).1;show Res.eG (bT a k)=_;have:bT a k=Z9 d:=by unfold bT gE;rw[tw (by omega),tw (by omega)];rw[fh];exact e
 rw[this];rfl
theorem Ba (hk:k<h.en.length):dQ (.list (h.en.map jD)) (.int k)=.ok (jD (h.at k)):=tJ (by rw[ao,Hd.get hk];rfl)
theorem Ky (a:k<h.ft.length):dQ (.list (h.ft.map .list)) (.int k)=.ok (.list (h.fa k)):=tJ (by rw[ao,Hd.fP a];rfl)
theorem eq_str (a b:Str):cmpD .Eq (.str a) (.str b)=.ok (a==b):=rfl
theorem ne_str (a b:Str):cmpD .NotEq (.str a) (.str b)=.ok (!(a==b)):=rfl
theorem Bb:∀a:List Str,fZ 40 (a.map ZV)=Z7
 | []=>rfl
 |x::a=>by rw[br];show(Z7&&fZ 40 (a.map ZV))=Z7;rw[Bb a];rfl
theorem wu (a:Str)(c:List Str):cmpD .In (.str a) (.list (c.map .str))=.ok (c.contains a):=by
 show(if(Z7&&fZ 40 (c.map ZV))=Z7 then Res.ok ((c.map ZV).any λy=>gI y (.str a))else Res.no)=_;rw[Bb c,List.any_map]
 have:(c.any λb=>b==a)=c.contains a:=by
  induction c with
  |nil=>rfl
  |cons b c d=>rw[jr,jy,d,show(b==a)=(a==b) by rw[ju,beq_iff_eq,beq_iff_eq,eq_comm]]
 exact congrArg Res.ok this
end
theorem E5 (c:a.length=(Z8::b).length)(h:∀k,k≠0->a[k]?=(Z8::b)[k]?):fX (Z8::b) a:=⟨c.symm,λi v e=>by rw[h i (by rintro rfl;cases e)];exact e⟩
theorem TL (c:a.length=(Z8::Z8::b).length)(h:∀k,k≠0->k≠1->a[k]?=(Z8::Z8::b)[k]?):fX (Z8::Z8::b) a:=⟨c.symm,λi v e=>by rw[h i (by rintro rfl;cases e) (by rintro rfl;cases e)];exact e⟩
theorem TM (es:List En):z2g 0 (es.map jD)=(bw es.length).map λ(i:Nat)=>PyData.tuple [.int i,jD (es.getD i ("","",.none))]:=by
 apply gg;intro i;rw[DE,ao,ao];by_cases hi:i<es.length
 .rw[ac hi];simp[aa,hi]
 .rw[ej (by omega),ej (by grind)];rfl
theorem TN (es:List En)(h:es.length<=1000):seqR (.list (es.map jD))=.ok (es.map jD):=by show(if decide ((es.map jD).length<=aT)=Z7 then Res.ok (es.map jD)else Res.no)=_;rw[tw];rw[ae];exact ua (bj h dc)
def StS (φ:dN)(K:Z5)(sp:Sp):Prop:=∃m,sp=spD K 2 m/\∀f d,φ.dy d=Z7->oJ f->∃g,m [.list f,d]=.ok (g,.bool (φ.sd f d))
def AgS (φ:dN)(K:Z5)(sp:Sp):Prop:=∃m,sp=spD K 2 m/\∀r s,φ.G r->φ.G s->∃g,m [r,s]=.ok (g,.bool (φ.ag r s))
def yW:Option Nat->D
 |none=>.none
 |some k=>.int k
def BrS (φ:dN)(K:Z5)(sp:Sp):Prop:=∃m,sp=spD K 2 m/\∀(rs:List D) s,rs.length<=1000->(∀r∈rs,φ.G r)->φ.G s->∃g,m [.list rs,s]=.ok (g,yW (rs.findIdx? λr=>φ.ag r s))
theorem zd1 {vw:V}(hk:HouK Z.K HC)(hz:Z.fn[0]?=Z9 sp)(hs:StS φ Z.K sp)(t:Hou Z.K HC CC H x A h)(ok:Hok φ h)(rw':Rep Z.K H B vw (.str w))(rd:Rep Z.K H B vd dy)(hd:φ.dy dy=Z7)
  (q:∀H' p,Same H H'->H p=Z8->H' p=Z9 (.lst (oK (lV φ h w dy)))->D0.rt (.ref p) H'):wS Z Hs.about D0 [Z9 (.ref x),Z9 vw,Z9 vd] H:=by
 obtain⟨m,rfl,hm⟩:=hs;refine tI hk t rfl ⟨AnyB,.list (h.en.map jD),h.en.map jD,t.hW,TN _ ok.big,λJ wk=>?_⟩;have wk:Walk Z.K J AnyB H ((bw h.en.length).map λ(i:Nat)=>PyData.tuple [.int i,jD (h.at i)]):=by have:=wk;rw[TM]at this;exact this
 refine zfj (p:=λk=>((h.at k).2.1==w)&&φ.sd (h.fa k) dy) wk (λk vf v H3 N M s3 rv hN hM=>?_) λl ys H' hl s' hy ry=>q H' l s' hl (hy▸congrArg (λz=>Z9 (HO.lst z)) (yV ry));have tK:=dq.mp vf;refine zvv (σ:=[Z8,Z8,Z9 (.ref x),Z9 vw,Z9 vd]) rv (by simp) (by simp) dc λσ' u w1 hl e0 e1 ru TQ rest=>⟨TL hl rest,?_⟩;refine⟨w1,e1,kR λH4 s4=>gC (TQ.same s4 λ_ z=>z) rfl λw2 r2=>⟨vw,rest 3 dc dc,mP r2 (rw'.same (s3.trans s4) λ_ z=>z) (eq_str _ _) λH5 s5=>⟨_,rfl,?_⟩⟩⟩;cases hb:((h.at k).2.1==w)with
 |false=>exact hN (by rw[hb];rfl) H5 (s4.trans s5)
 |true=>
  have t5:=t.same (s3.trans (s4.trans s5));refine tH hz ?_;cases ru;refine aI (gP (wt hk t5 (rest 2 dc dc) (aF e0 ?_)));obtain⟨g,hg⟩:=hm (h.fa k) dy hd (ok.fo _ (aq (Hd.fP (ok.len▸tK))));refine gC t5.u9 (Ky (ok.len▸tK)) λw3 r3=>aI (aF (rest 4 dc dc) ⟨AnyB,[.list (h.fa k),dy],_,rfl,Reps.cons r3 (Reps.cons (rd.same (s3.trans (s4.trans s5)) λ_ _=>trivial) rfl),hg,λv6 H6 s6 r6=>?_⟩);cases r6;refine⟨_,rfl,?_⟩;cases hc:φ.sd (h.fa k) dy with
  |false=>exact hN (by rw[hb,hc];rfl) H6 (s4.trans (s5.trans s6))
  |true=>exact⟨_,e0,hM (by rw[hb,hc];rfl) _ H6 (s4.trans (s5.trans s6)) rfl⟩
theorem z6v (m:HouK Z.K n)(t:Hou Z.K n O H x A h)(ok:Hok P h)(rn:Rep Z.K H B f (.list (z0o ks)))(b:∀k∈ks,k<h.en.length)
  (q:∀a p d,Same H a->H p=Z8->a p=Z9 (.lst d)->Reps Z.K a NoB d (ks.map λk=>(h.at k).2.2)->o.rt (.ref p) a):wS Z Hs.gQ o [Z9 (.ref x),Z9 f] H:=by
 refine⟨f,rfl,B,.list (z0o ks),z0o ks,rn,rfl,λJ r=>?_⟩;refine zfj r (λk c v Q N M s u hN w=>?_) λl d a e y C g=>q a l d y e C (by rw[fj.mpr λ_ _=>rfl]at g;exact g);refine zck (σ:=[Z8,Z9 (.ref x)]) u (by simp) λD R e E r0 rest=>⟨E5 e rest,?_⟩;cases r0;have i:=t.same s;refine gP (gP (tI m i (rest 1 dc) (aF E (gC i.hW (Ba (b k c)) λS F=>kR λG j=>gC (F.same j λ_ z=>z) rfl λI L=>?_))));exact w rfl I G j (Rep.aW _ (ok.gd _ (aq (Hd.get (b k c)))).2.1 L)
theorem aZ.mem {K:Z5}:∀{kvs:List (Key×V)} {es:bA} {e:D×D},aZ K H B kvs es->e∈es->∃v,Rep K H B v e.2
 |_,(kd,d)::es,e,r,h=>by
  obtain⟨k,v,t,rfl,_,_,a,b⟩:=r;rcases bq.mp h with rfl|h
  .exact⟨v,a⟩
  .exact aZ.mem b h
theorem TR (h:z0g es k=Z9 d):∃k',(k',d)∈es:=by obtain⟨e,h1,h2⟩:=bp.mp h;exact⟨e.1,by rw[<-h2];exact List.mem_of_find?_eq_some h1⟩
theorem Kz {K:Z5}(c:Crt K f H x dx d kvs es):∀n s,ZW s=Z7->∀u∈eN es n s,ZW u=Z7
 |0,s,hs,u,hu=>by cases az.mp hu;exact hs
 |n+1,s,hs,u,hu=>by
  unfold eN at hu;split at hu
  .rename_i a e;obtain⟨g,hm⟩:=TR e;obtain⟨v,b⟩:=aZ.mem c.re hm;rcases bq.mp hu with rfl|hu
   .exact hs
   .exact Kz c n a b.2 u hu
  .cases az.mp hu;exact hs
section
variable (φ:dN)(K:Z5)(HC CC:Addr)(mg:Str->Option Value)
abbrev oN (H:Hp)(ks:List Nat)(Q:VK):Prop:=∀H' p,Same H H'->H p=Z8->H' p=Z9 (.lst (oK ks))->Q (.ref p) H'
abbrev dI (c:Str)(H:Hp)(E:XK):Prop:=∀C H',mg c=Z9 (.ref C)->Same H H'->E (.ref C) Z8 H'
def spAb:Sp:=λvs H Q _=>∃x A h vw w vd dy B,vs=[.ref x,vw,vd]/\Hou K HC CC H x A h/\Hok φ h/\Rep K H B vw (.str w)/\Rep K H B vd dy/\φ.dy dy=Z7/\oN H (lV φ h w dy) Q
def spRa:Sp:=λvs H Q _=>∃x A h vn ks B,vs=[.ref x,vn]/\Hou K HC CC H x A h/\Hok φ h/\Rep K H B vn (.list (z0o ks))/\(∀k∈ks,k<h.en.length)/\∀H' p ys,Same H H'->H p=Z8->H' p=Z9 (.lst ys)->Reps K H' NoB ys (ks.map λk=>(h.at k).2.2)->Q (.ref p) H'
def spSt:Sp:=λvs H Q E=>∃x A h vc c vw w vd dy B,vs=[.ref x,vc,vw,vd]/\Hou K HC CC H x A h/\Hok φ h/\Rep K H B vc c/\Rep K H B vw (.str w)/\Rep K H B vd dy/\φ.dy dy=Z7/\if stN h.es c=Z7 then ∃s,c=.str s/\aR h.es 999 s=Z7/\oN H (stg φ h s w dy) Q else dI mg "NoCourt" H E
def wx (h:Hd)(k:Nat)(s:Str)(r:D):Bool:=!((h.at k).1==s)&&(ln h.es (h.at k).1).contains s&&φ.ag (h.at k).2.2 r
def spIf:Sp:=λvs H Q _=>∃x A h k vc s vm r B,vs=[.ref x,.int (k:Nat),vc,vm]/\Hou K HC CC H x A h/\Hok φ h/\k<h.en.length/\Rep K H B vc (.str s)/\Rep K H B vm r/\φ.G r/\∀H',Same H H'->Q (.bl (wx φ h k s r)) H'
def spFe:Sp:=λvs H Q _=>∃x A h vc s vw w vm r B,vs=[.ref x,vc,vw,vm]/\Hou K HC CC H x A h/\Hok φ h/\Rep K H B vc (.str s)/\Rep K H B vw (.str w)/\Rep K H B vm r/\φ.G r/\oN H (fll φ h s w r) Q
def spCc:Sp:=λvs H Q E=>∃x A h vc c B,vs=[.ref x,vc]/\Hou K HC CC H x A h/\Rep K H B vc c/\if stN h.es c=Z7 then(∃s,c=.str s/\aR h.es 999 s=Z7)/\∀H',Same H H'->Q .aO H' else dI mg "NoCourt" H E
def late:Option Int->Int->Bool
 |none,_=>Z6
 |some l,d=>decide (d<l)
def spCd:Sp:=λvs H Q E=>∃x A h vc c n B,vs=[.ref x,.int n,vc]/\Hou K HC CC H x A h/\Rep K H B vc c/\if stN h.es c=Z7 then(∃s,c=.str s/\aR h.es 999 s=Z7)/\if late h.ld n=Z7 then dI mg "Late" H E else ∀H',Same H H'->Q .aO H' else dI mg "NoCourt" H E
abbrev qZ (H:Hp)(k:Nat)(E:XK):Prop:=∀C H' dp,mg "NotAllowed"=Z9 (.ref C)->Same H H'->H dp=Z8->H' dp=Z9 (.xd [("by",.int k)])->E (.ref C) (Z9 dp) H'
def spCa:Sp:=λvs H Q E=>∃x A h vc s vw w vm r B,vs=[.ref x,vc,vw,vm]/\Hou K HC CC H x A h/\Hok φ h/\Rep K H B vc (.str s)/\Rep K H B vw (.str w)/\Rep K H B vm r/\φ.G r/\z1j h.es s=Z7/\
 match bar φ h s w r with
 |none=>∀H',Same H H'->Q .aO H'
 |some k=>qZ mg H k E
end
theorem yX (hk:k∈lV φ h w dy):k<h.en.length:=dq.mp (dn.mp hk).1
theorem vg (a:k∈stg φ h s w dy):k<h.en.length:=yX (dn.mp a).1
theorem Hou.bQ {K:Z5}(t:Hou K c k H x A h):∃fs,H x=Z9 (.ins c A.dx fs)/\∀m:Str,m≠"courts"->m≠"entries"->m≠"fates"->m≠"last_day"->fs.lookup m=none:=by
 obtain⟨l,d,_⟩:=t.ins;refine⟨_,d,λm e g i j=>?_⟩;have f:∀{a b:Str},a≠b->(a==b)=false:=λh=>by simpa using h
 rw[c7,f e,c7,f g,c7,f i,c7,f j];rfl
theorem E6 {K:Z5}(t:Hou K b c H x A h)(hs:ZW s=Z7)(a:H p=Z9 (.lst ((ln h.es s).map V.str))):Rep K H AnyB (.ref p) (.list ((ln h.es s).map .str)):=⟨p,_,rfl,.inl ⟨a,trivial⟩,ET (Kz t.cH 999 s hs)⟩
theorem z86 {g:V}(y:HouK Z.K i)(P:Z.me[0]?=Z9 (j,("line":Str),z5l Z.K j Z.mg))(Q:Z.me[1]?=Z9 (i,("about":Str),spAb b Z.K i j))(t:Hou Z.K i j H x A h)(ok:Hok b h)(rc:Rep Z.K H B vc c)(m:Rep Z.K H B g (.str w))(rd:Rep Z.K H B vd dy)(hd:b.dy dy=Z7)
  (q:if stN h.es c=Z7 then ∃s,c=.str s/\aR h.es 999 s=Z7/\oN H (stg b h s w dy) R.rt else dI Z.mg "NoCourt" H Z.E):wS Z Hs.iO R [Z9 (.ref x),Z9 vc,Z9 g,Z9 vd,Z8] H:=by
 refine fE P (A9 y t rfl ⟨A.c,A.dc,_,rfl,t.cH.ins,rfl,aI (aF rfl (bJ ⟨A.c,A.dc,A.d,A.kvs,h.es,vc,c,B,rfl,t.cH,rc,?_⟩))⟩);cases hs:stN h.es c with
 |false=>rw[hs]at q;exact q
 |true=>
  rw[hs]at q;obtain⟨s,rfl,S,q⟩:=q;refine⟨s,999,rfl,by decide,S,λH1 p f T U=>?_⟩;have C:=t.same f;obtain⟨fs,W,i2⟩:=C.bQ;refine Kv (N':=[]) (fE Q (aF rfl ⟨x,A.dx,fs,rfl,W,i2 _ (by decide) (by decide) (by decide) (by decide),aI (aF rfl (aI (aF rfl (bJ ⟨x,A,h,g,w,vd,dy,B,rfl,C,ok,m.same f λ_ z=>z,rd.same f λ_ z=>z,hd,λH2 p2 D KA n=>?_⟩))))⟩));refine⟨AnyB,.list (z0o (lV b h w dy)),z0o (lV b h w dy),⟨p2,_,rfl,.inl ⟨n,trivial⟩,qY⟩,rfl,λJ wk=>?_⟩;have a:=f.trans D;refine zfj wk (λk o v H3 N M F rv hN hM=>?_) λl ys H' r s' hy ry=>q H' l (a.trans s') (a.none r) (hy▸congrArg (λz=>Z9 (HO.lst z)) (yV ry));refine zck (σ:=[Z8,Z9 (.ref x),Z9 (.ref p)]) rv (by simp) λσ' w1 r G r0 rest=>⟨E5 r rest,?_⟩;cases r0;have u:=t.same (a.trans F);refine wo (gP (gP (tI y u (rest 1 (by decide)) (aF G (gC u.hW (Ba (yX o)) λw2 r2=>kR λH4 e=>gC (r2.same e λ_ z=>z) rfl λw3 r3=>aF (rest 2 (by decide)) (mP r3 (E6 (u.same e) rc.2 (e _ _ (F _ _ (D _ _ U)))) (wu _ _) λI L=>⟨_,rfl,?_⟩))))));cases O:(ln h.es s).contains (h.at k).1 with
  |false=>exact hN O I (e.trans L)
  |true=>exact⟨_,G,hM O _ I (e.trans L) rfl⟩
theorem z7o (w:HouK Z.K E)(F:Z.me[0]?=Z9 (y,("line":Str),z5l Z.K y Z.mg))(I:Z.fn[0]?=Z9 J)(hs:AgS j Z.K J)(t:Hou Z.K E y H x A h)(ok:Hok j h)(f:k<h.en.length)(rc:Rep Z.K H B L (.str s))(rm:Rep Z.K H B M r)(N:j.G r)
  (q:∀C,Same H C->O.rt (.bl (wx j h k s r)) C):wS Z Hs.iP O [Z9 (.ref x),Z9 (.int k),Z9 L,Z9 M,Z8] H:=by
 obtain⟨m,rfl,hm⟩:=hs;refine gP (tI w t rfl (aF rfl (gC t.hW (Ba f) λwe re=>?_)));obtain⟨g1,g2,g3⟩:=ok.gd _ (aq (Hd.get f));obtain⟨P,Q⟩:=au.mp g3;refine Ku (E1 (gP (aF rfl (kR λH1 l=>gC (re.same l λ_ z=>z) rfl λw1 R=>aF rfl (mP R (rc.same l λ_ z=>z) (ne_str _ _) λS T=>⟨_,rfl,?_⟩)))));have a:=l.trans T;cases n:((h.at k).1==s)with
 |true=>have:=q S a;unfold wx at this;rw[n]at this;exact this
 |false=>
  refine Ku (E1 (aF rfl (fE F (A9 w (t.same a) rfl ⟨A.c,A.dc,_,rfl,(t.same a).cH.ins,rfl,aI (gP (aF rfl (kR λH3 o=>gC (re.same (a.trans o) λ_ z=>z) rfl λU D=>bJ ⟨A.c,A.dc,A.d,A.kvs,h.es,U,.str (h.at k).1,AnyB,rfl,(t.same (a.trans o)).cH,D,?_⟩)))⟩))));rw[tw P];refine⟨(h.at k).1,999,rfl,by decide,Q,λH4 p V W X=>?_⟩;have e:=a.trans (o.trans V);refine mP (rc.same e λ_ z=>z) (E6 (t.same e) D.2 X) (wu _ _) λY s5=>⟨_,rfl,?_⟩;have b:=e.trans s5;cases i:(ln h.es (h.at k).1).contains s with
  |false=>have:=q Y b;unfold wx at this;rw[n,i]at this;exact this
  |true=>obtain⟨g,u⟩:=hm _ _ g1 N;refine tH I (aI (gP (aF rfl (kR λH6 v=>gC (re.same (b.trans v) λ_ z=>z) rfl λw6 r6=>aI (aF rfl (bJ ⟨λ_=>True,[(h.at k).2.2,r],_,rfl,Reps.cons r6 (Reps.cons (rm.same (b.trans v) λ_ _=>trivial) rfl),u,λv7 H7 s7 r7=>?_⟩))))));cases r7;have:=q H7 (b.trans (v.trans s7));unfold wx at this;rw[n,i]at this;exact this
theorem zbn {vw:V}(hk:HouK Z.K HC)(h1:Z.me[0]?=Z9 (HC,("about":Str),spAb φ Z.K HC CC))(h2:Z.me[1]?=Z9 (HC,("is_felled":Str),spIf φ Z.K HC CC))(t:Hou Z.K HC CC H x A h)(ok:Hok φ h)(rc:Rep Z.K H B vc (.str s))(rw':Rep Z.K H B vw (.str w))(rm:Rep Z.K H B vm r)(hg:φ.G r)
  (q:oN H (fll φ h s w r) D0.rt):wS Z Hs.oM D0 [Z9 (.ref x),Z9 vc,Z9 vw,Z9 vm] H:=by
 obtain⟨fs,i1,i2⟩:=t.bQ;refine Kv (N':=[]) (fE h1 (aF rfl ⟨x,A.dx,fs,rfl,i1,i2 _ dc dc dc dc,aI (aF rfl (aI (A8 λH1 s1=>bJ ⟨x,A,h,vw,w,.aO,.none,B,rfl,t.same s1,ok,rw'.same s1 λ_ z=>z,rfl,φ.d0,λH2 p2 s2 KA E7=>?_⟩)))⟩));have lW:=s1.trans s2;refine⟨AnyB,.list (z0o (lV φ h w .none)),z0o (lV φ h w .none),⟨p2,_,rfl,.inl ⟨E7,trivial⟩,qY⟩,rfl,λJ wk=>?_⟩;refine zfj wk (λk vf v H3 N M s3 rv hN hM=>?_) λl ys H' hl s' hy ry=>q H' l (lW.trans s') (lW.none hl) (hy▸congrArg (λz=>Z9 (HO.lst z)) (yV ry));refine zck (σ:=[Z8,Z9 (.ref x),Z9 vc,Z9 vm]) rv (by simp) λσ' w1 hl e0 r0 rest=>⟨E5 hl rest,?_⟩;cases r0;have rC:=lW.trans s3;have t3:=t.same rC;obtain⟨TU,j1,j2⟩:=t3.bQ;refine u1 (fE h2 (aF (rest 1 dc) ⟨x,A.dx,TU,rfl,j1,j2 _ dc dc dc dc,aI (aF e0 (aI (aF (rest 2 dc) (aI (aF (rest 3 dc) (bJ ⟨x,A,h,k,vc,s,vm,r,B,rfl,t3,ok,yX vf,rc.same rC λ_ z=>z,rm.same rC λ_ z=>z,hg,λH4 s4=>⟨_,rfl,?_⟩⟩))))))⟩));cases hb:wx φ h k s r with
 |false=>exact hN hb H4 s4
 |true=>exact⟨_,e0,hM hb _ H4 s4 rfl⟩
theorem z5b (g:HouK Z.K i)(j:Z.me[0]?=Z9 (b,("line":Str),z5l Z.K b Z.mg))(t:Hou Z.K i b H x A h)(rc:Rep Z.K H B a c)
  (q:if stN h.es c=Z7 then(∃s,c=.str s/\aR h.es 999 s=Z7)/\∀f,Same H f->k.nx [Z9 (.ref x),Z9 a] f else dI Z.mg "NoCourt" H Z.E):wS Z Hs.fO k [Z9 (.ref x),Z9 a] H:=by
 refine fE j (A9 g t rfl ⟨A.c,A.dc,_,rfl,t.cH.ins,rfl,aI (aF rfl (bJ ⟨A.c,A.dc,A.d,A.kvs,h.es,a,c,B,rfl,t.cH,rc,?_⟩))⟩);cases hs:stN h.es c with
 |false=>rw[hs]at q;exact q
 |true=>rw[hs]at q;obtain⟨⟨s,e,l⟩,q⟩:=q;exact⟨s,999,e,by decide,l,λm p n o r=>q m n⟩
theorem z6k (j:HouK Z.K b)(v:Z.me[0]?=Z9 (b,("check_court":Str),spCc Z.K b w Z.mg))(t:Hou Z.K b w H x A h)(rc:Rep Z.K H B d c)
  (q:if stN h.es c=Z7 then(∃s,c=.str s/\aR h.es 999 s=Z7)/\if late h.ld n=Z7 then dI Z.mg "Late" H Z.E else ∀k,Same H k->y.nx [Z9 (.ref x),Z9 (.int n),Z9 d] k else dI Z.mg "NoCourt" H Z.E):wS Z Hs.gR y [Z9 (.ref x),Z9 (.int n),Z9 d] H:=by
 obtain⟨fs,g,a⟩:=t.bQ;refine fE v (aF rfl ⟨x,A.dx,fs,rfl,g,a _ (by decide) (by decide) (by decide) (by decide),aI (aF rfl (bJ ⟨x,A,h,d,c,B,rfl,t,rc,?_⟩))⟩);cases hs:stN h.es c with
 |false=>rw[hs]at q;exact q
 |true=>
  rw[hs]at q;obtain⟨e,q⟩:=q;refine⟨e,λi f=>?_⟩;obtain⟨m,g,a⟩:=(t.same f).ins;have la:∀Q:VK,Q m i->wE Z (.jA (.raw 0) "last_day") [Z9 (.ref x),Z9 (.int n),Z9 d] i Q:=λQ q=>⟨.ref x,rfl,x,b,A.dx,_,m,rfl,g,j.cls,j.a4,rfl,q⟩;refine Kt (la _ ⟨_,rfl,?_⟩);cases o:h.ld with
  |none=>rw[o]at a q;cases a;exact q i f
  |some l=>
   rw[o]at a q;cases a;refine wo (aF rfl (la _ (mP (B:=AnyB) (B':=AnyB) (dx:=.int n) (dy:=.int l) rfl rfl rfl λp r=>⟨_,rfl,?_⟩)));cases u:decide (n<l)with
   |false=>rw[show late (Z9 l) n=decide (n<l)from rfl,u]at q;exact q p (f.trans r)
   |true=>rw[show late (Z9 l) n=decide (n<l)from rfl,u]at q;exact λC e=>q C p e (f.trans r)
theorem KC {c:Type}{p:c->Bool}:∀(l:List c),match l.findIdx? p with|none=>l.find? p=Z8|some i=>∃a,l[i]?=Z9 a/\l.find? p=Z9 a
 | []=>rfl
 |a::l=>by
  rw[fy];cases d:p a with
  |true=>exact⟨a,rfl,by rw[i7 d]⟩
  |false=>
   have b:=KC (p:=p) l;rw[nz (by rw[d];decide)];cases hf:l.findIdx? p with
   |none=>rw[hf]at b;exact b
   |some i=>rw[hf]at b;exact b
theorem z2e {l:V}(J:HouK Z.K d)(W:Z.me[0]?=Z9 (d,("rulings_at":Str),spRa a Z.K d L))(X:Z.md[0]?=Z9 (d,("standing":Str),spSt a Z.K d L Z.mg))(n:Z.fn[0]?=Z9 Y)(hs:BrS a Z.K Y)(t:Hou Z.K d L H x A h)(ok:Hok a h)(rc:Rep Z.K H B M (.str s))(o:Rep Z.K H B l (.str w))(rm:Rep Z.K H B vm r)(hg:a.G r)(hc:z1j h.es s=Z7)
  (q:match bar a h s w r with|none=>∀u N,Same H N->D0.nx u N|some k=>qZ Z.mg H k Z.E):wS Z Hs.eE D0 [Z9 (.ref x),Z9 M,Z9 l,Z9 vm,Z8,Z8] H:=by
 obtain⟨m,rfl,hm⟩:=hs;obtain⟨g4,g5⟩:=au.mp hc;obtain⟨fs,i1,i2⟩:=t.bQ;refine E2 X (aF rfl ⟨x,A.dx,fs,rfl,i1,i2 _ dc dc dc dc,aI (aF rfl (aI (aF rfl (bJ ⟨x,A,h,M,.str s,l,w,.aO,.none,B,rfl,t,ok,rc,o,rfl,a.d0,?_⟩))))⟩);rw[tw g4];refine⟨s,rfl,g5,λH1 p O KD P=>?_⟩;have Q:=t.same O;obtain⟨v,j1,j2⟩:=Q.bQ;have y:((stg a h s w .none).map λk=>(h.at k).2.2).length<=1000:=by rw[ae];refine bj (cn _ _) (bj (cn _ _) ?_);rw[cx];exact ok.big
 obtain⟨g,D⟩:=hm ((stg a h s w .none).map λk=>(h.at k).2.2) r y (λz n=>by obtain⟨k,F,rfl⟩:=bz.mp n;exact(ok.gd _ (aq (Hd.get (vg F)))).1) hg;refine tH n (aI (fE W (aF rfl ⟨x,A.dx,v,rfl,j1,j2 _ dc dc dc dc,aI (aF rfl (bJ ⟨x,A,h,.ref p,stg a h s w .none,AnyB,rfl,Q,ok,⟨p,_,rfl,.inl ⟨P,trivial⟩,qY⟩,λk J=>vg J,λH2 p2 ys R KA I r2=>?_⟩))⟩)));have e:=O.trans R;refine aI (aF rfl (bJ ⟨AnyB,[.list ((stg a h s w .none).map λk=>(h.at k).2.2),r],_,rfl,Reps.cons ⟨p2,ys,rfl,.inl ⟨I,trivial⟩,r2.weak λ_ z=>z.elim⟩ (Reps.cons (rm.same e λ_ _=>trivial) rfl),D,λS T U b=>?_⟩));have c:=e.trans U;refine⟨S,rfl,_,rfl,?_⟩;have j:=KC (p:=λk=>a.ag (h.at k).2.2 r) (stg a h s w .none);rw[ml]at b;have b:Rep Z.K T (BC H2 AnyB g) S (yW ((stg a h s w .none).findIdx? λk=>a.ag (h.at k).2.2 r)):=b;cases hf:(stg a h s w .none).findIdx? λk=>a.ag (h.at k).2.2 r with
 |none=>rw[hf]at b j;cases b;rw[show bar a h s w r=Z8 from j]at q;exact q _ T c
 |some i=>rw[hf]at b j;cases b;obtain⟨k,e1,e2⟩:=j;rw[show bar a h s w r=Z9 k from e2]at q;refine λC hC=>gP (aF rfl (aF rfl (gC (B:=AnyB) (dx:=.list (z0o (stg a h s w .none))) ⟨p,_,rfl,.inl ⟨U _ _ (R _ _ P),trivial⟩,qY⟩ (tJ (by unfold z0o;rw[ao,e1];rfl)) λw4 r4=>?_)));cases r4;exact λdp f=>q C _ dp hC (c.trans (Same.upd f)) (c.none f) bF
namespace Ct
def pairs:WS:=.seq (.ret (.lit AB)) .nil
end Ct
namespace Hs
def init:WS:=.seq (.fld (.raw 0) "courts" (.mk 0 (.cons (.cC (.raw 1) 0 .nil) .nil))) (.seq (.fld (.raw 0) "entries" (.lst .nil)) (.seq (.fld (.raw 0) "fates" (.lst .nil)) (.seq (.fld (.raw 0) "last_day" (.aX .aO)) .nil)))
def eS:WS:=.seq (.asg 2 (.aX (.and (.fY (.var 1) ["int"]) (.not (.fY (.var 1) ["bool"]))))) (.seq (.bN (.not (.iM (.jV (.raw 2)) (.AS .LtE .Lt (.aX (.int 0)) (.raw 1) (.len EN)))) (.seq (.jI "NoRuling") .nil) .nil) .nil)
def yY:WS:=.seq (.exp (.cC (.raw 0) 0 (.cons (.raw 1) .nil))) (.seq (.ret (.AR (.ix FA (.raw 1)))) .nil)
abbrev FT:W:=.tup (.cons (.aX (.str "fell")) (.cons (.raw 1) (.cons (.raw 8) .nil)))
abbrev TV:W:=.tup (.cons (.aX (.str "entered")) (.cons (.raw 1) (.cons (.raw 2) .nil)))
def enter:WS:=.seq (.exp (.cC (.raw 0) 0 (.cons (.raw 1) (.cons (.raw 2) .nil))))
 (.seq (.asg 7 (.gO 0 (.cons (.raw 4) (.cons (.raw 5) (.cons (.raw 6) .nil)))))
 (.seq (.exp (.cC (.raw 0) 1 (.cons (.raw 2) (.cons (.raw 3) (.cons (.raw 7) .nil)))))
 (.seq (.asg 8 (.len EN))
 (.seq (.lS (.nm 9) (.cC (.raw 0) 2 (.cons (.raw 2) (.cons (.raw 3) (.cons (.raw 7) .nil)))) (.seq (.app (.qQ FA (.raw 9)) FT) .nil))
 (.seq (.app EN (.tup (.cons (.raw 2) (.cons (.raw 3) (.cons (.raw 7) .nil)))))
 (.seq (.app FA (.lst (.cons TV .nil)))
 (.seq (.fld (.raw 0) "last_day" (.raw 1))
 (.seq (.ret (.raw 8)) .nil))))))))
end Hs
def pF (h:Hd)(n:Int):Bool:=decide (0<=n)&&decide (n<h.en.length)
section
variable (φ:dN)(K:Z5)(HC CC:Addr)(mg:Str->Option Value)
def spPt:Sp:=λvs H Q _=>∃x dx d kvs es,vs=[.ref x]/\Crt K CC H x dx d kvs es/\∀H' v,Same H H'->Rep K H' (nw H) v (.list (es.map ent))->Q v H'
def spCn:Sp:=λvs H Q E=>∃x A h n,vs=[.ref x,.int n]/\Hou K HC CC H x A h/\h.en.length<=1000/\if pF h n=Z7 then ∀H',Same H H'->Q .aO H' else dI mg "NoRuling" H E
def spFt:Sp:=λvs H Q E=>∃x A h n,vs=[.ref x,.int n]/\Hou K HC CC H x A h/\Hok φ h/\if pF h n=Z7 then ∀H' v,Same H H'->Rep K H' (nw H) v (.list (h.fa n.toNat))->Q v H' else dI mg "NoRuling" H E
end
theorem TX (h0:0<=n)(e:a[n.toNat]?=Z9 d):dQ (.list a) (.int n)=.ok d:=by have:=tJ e;rw[Int.toNat_of_nonneg h0]at this;exact this
theorem TY (ck:CrtK Z.K g)(ct:Crt Z.K g H x dx d kvs es)(q:∀b v,Same H b->Rep Z.K b (nw H) v (.list (es.map ent))->e.rt v b):wS Z Ct.pairs e [Z9 (.ref x)] H:=by refine yQ (Q:=λx f=>tyV Z.K "dict" x f/\AO x [] f λv i=>AQ Z.K [v] i e.rt) ck ct rfl ⟨.inr (.inr (.inl ⟨rfl,.inl ⟨_,ct.fT⟩⟩)),d,kvs,rfl,rfl,ct.fT,λp j=>?_⟩;have c:=Same.upd (o:=.ext λh=>h.IsItemsView p d) j;refine⟨p,d,kvs,es,rfl,bF,c _ _ ct.fT,(ct.same c).re,λw b s r=>q b w (c.trans s) ?_⟩;exact r.weak λa z=>nw.back c z
theorem KG (d:b.length<=aT)(q:∀R,(∀B,Rep Z.K H B v (.list b)->R v H)->wE Z a f H R)(r:Rep Z.K H AnyB v (.list b))(k:∀c,Same H c->Q (.int b.length) c):wE Z (.len a) f H Q:=by
 refine q _ λB _=>⟨AnyB,[.list b],.int b.length,Reps.cons r rfl,?_,λw c s e=>by cases e;exact k c s⟩
 first|rfl|(rw[tw d])
theorem TZ (m:HouK Z.K o)(t:Hou Z.K o I H x A h)(p:h.en.length<=1000)(q:if pF h n=Z7 then ∀c j,Same H j->s.nx c j else dI Z.mg "NoRuling" H Z.E):wS Z Hs.eS s [Z9 (.ref x),Z9 (.int n),Z8] H:=by
 refine⟨[Z8,Z9 (.od,.int n),Z8],F0 H,(.fr,.bool Z7),qW rfl λi g d e=>?_,rfl,λv J u w=>?_⟩
 .rcases i with _|_|_|i<;>cases e;exact⟨rfl,.int n,AnyB,rfl,rfl⟩
 cases w;refine Kt (u1 (aF rfl ⟨Z7,rfl,?_⟩));refine kR λL y=>aF rfl (mP (B:=AnyB) (B':=AnyB) (dx:=.int 0) (dy:=.int n) rfl rfl rfl λz D=>⟨_,rfl,?_⟩);have a:=u.trans (y.trans D);unfold pF at q;cases h0:decide (0<=n)with
 |false=>rw[h0]at q;exact⟨_,rfl,λC e=>q C z e a⟩
 |true=>
  rw[h0]at q;have f:=t.same a;refine KG (by rw[ae];exact bj p dc) (λR r=>tI m f rfl (r AnyB f.hW)) f.hW λM F=>mP (B:=AnyB) (B':=AnyB) (dx:=.int n) (dy:=.int (h.en.map jD).length) rfl rfl rfl λk G=>⟨_,rfl,?_⟩;have b:=a.trans (F.trans G);rw[ae];cases l:decide (n<h.en.length)with
  |false=>rw[l]at q;exact λC e=>q C k e b
  |true=>rw[l]at q;exact q _ k b
theorem T1 (hk:HouK Z.K HC)(h1:Z.me[0]?=Z9 (HC,("check_number":Str),spCn Z.K HC CC Z.mg))(t:Hou Z.K HC CC H x A h)(ok:Hok φ h)(q:if pF h n=Z7 then ∀H' v,Same H H'->Rep Z.K H' (nw H) v (.list (h.fa n.toNat))->D0.rt v H' else dI Z.mg "NoRuling" H Z.E):wS Z Hs.yY D0 [Z9 (.ref x),Z9 (.int n)] H:=by
 obtain⟨fs,i1,i2⟩:=t.bQ;refine fE h1 (aF rfl ⟨x,A.dx,fs,rfl,i1,i2 _ dc dc dc dc,aI (aF rfl (bJ ⟨x,A,h,n,rfl,t,ok.big,?_⟩))⟩);by_cases hb:pF h n=Z7
 .rw[tw hb]at q ⊢;intro H1 s1;have t1:=t.same s1;obtain⟨b0,b1⟩:=au.mp hb;have b0:=t8 b0;have b1:=t8 b1;have tK:n.toNat<h.ft.length:=by rw[ok.len];omega
  refine gP (wt hk t1 rfl (aF rfl (gC t1.u9 (TX b0 (by rw[ao,Hd.fP tK];rfl)) λw r=>⟨AnyB,w,.list (h.fa n.toNat),Z7,h.fa n.toNat,.list (h.fa n.toNat),rfl,r,rfl,rfl,λv H2 s2 rv=>q H2 v (s1.trans s2) (rv.weak λa z=>?_)⟩)));rcases z with z|⟨z,_⟩
  .exact nw.back s1 z
  .rw[Kw (ok.fo _ (aq (Hd.fP tK)))]at z;cases z
 .rw[tx hb]at q ⊢;exact q
def fQ (ft:List (List D))(L:List Nat)(t:D):List (List D):=L.foldl (λft k=>ft.set k (ft.getD k []++[t])) ft
def z8d (n:Int)(k:Nat):D:=.tuple [.str "fell",.int n,.int k]
def Bc (n:Int)(s:Str):D:=.tuple [.str "entered",.int n,.str s]
def Hd.put (h:Hd)(n:Int)(s w:Str)(r:D)(L:List Nat):Hd:=⟨h.es,h.en++[(s,w,r)],fQ h.ft L (z8d n h.en.length)++[[Bc n s]],Z9 n⟩
section
variable {K:Z5}{H H':Hp}{HC CC x:Addr}{A:Ha}{h:Hd}
abbrev Frm1 (A:Ha)(x:Addr)(H H':Hp):Prop:=∀b o,¬A.own x b->H b=Z9 o->H' b=Z9 o
theorem Hou.cT (t:Hou K HC CC H x A h)(a:A.own x b)(e:H b=Z9 o):¬Fix o:=by
 rcases a with rfl|rfl|rfl|rfl|a
 .obtain⟨i,c,_⟩:=t.ins;rw[c]at e;cases e;exact id
 .rw[t.cH.fT]at e;cases e;exact id
 .obtain⟨j,d,_⟩:=t.ent;rw[d]at e;cases e;exact id
 .rw[t.kS]at e;cases e;exact id
 .obtain⟨k,f⟩:=ce.mp a;obtain⟨l,g,_⟩:=t.dM.2 k b f;rw[g]at e;cases e;exact id
theorem Hou.fix (t:Hou K HC CC H x A h)(f:Frm1 A x H H'):∀a o,H a=Z9 o->Fix o->H' a=Z9 o:=λa o e z=>f a o (λhb=>t.cT hb e z) e
theorem Hou.jW (t:Hou K HC CC H x A h)(b:H a=Z9 (.lst f)):x≠a/\A.c≠a/\A.d≠a:=by
 refine⟨?_,?_,?_⟩
 .rintro rfl
  obtain⟨g,e,_⟩:=t.ins;rw[e]at b;cases b
 .rintro rfl
  rw[t.cH.ins]at b;cases b
 .rintro rfl
  rw[t.cH.fT]at b;cases b
theorem wy (c:H a=Z9 (.lst d)):∀b o,H b=Z9 o->(NoB (Z9 b)\/Fix o)->upd H a (.lst ys) b=Z9 o:=λb o e z=>by
 rw[aG]
 .exact e
 .rintro rfl
  rw[c]at e;cases e;exact z.elim id id
theorem Bd {e:Type}:∀{l:List e} {i j:Nat} {a:e},l.Nodup->l[i]?=Z9 a->l[j]?=Z9 a->i=j
 | [],i,_,_,_,h,_=>by simp at h
 |b::l,0,0,_,_,_,_=>rfl
 |b::l,0,j+1,a,nd,c,d=>by rw[gh]at d;cases c;exact absurd (aq d) (ef.mp nd).1
 |b::l,i+1,0,a,nd,c,d=>by rw[gh]at c;cases d;exact absurd (aq c) (ef.mp nd).1
 |b::l,i+1,j+1,a,nd,c,d=>by rw[Bd (ef.mp nd).2 c d]
theorem Hou.iQ (hh:Hou K HC CC H x A h)(e:A.as[k]?=Z9 a)(q:H a=Z9 (.lst f))(i:Reps K H NoB f (h.fa k))(r:Rep K H NoB y t):Hou K HC CC (upd H a (.lst (f++[y]))) x A {h with ft:=h.ft.set k (h.fa k++[t])}:=by
 obtain⟨n1,n2,n3⟩:=hh.jW q;have c:=aq e;have d:=wy (ys:=f++[y]) q;obtain⟨s,u,v⟩:=hh.ins;obtain⟨w,B,C⟩:=hh.ent;have l:A.le≠a:=λz=>hh.n2 (z▸c);have m:A.lf≠a:=λz=>hh.n3 (z▸c);have n:=(ax.mp e).1;refine⟨⟨s,by rw[aG n1];exact u,Rep.keep d (λ_ z=>z) _ v⟩,⟨by rw[aG n2];exact hh.cH.ins,by rw[aG n3];exact hh.cH.fT,aZ.keep d (λ_ z=>z) _ hh.cH.re⟩,⟨w,by rw[aG l];exact B,Reps.keep d (λ_ z=>z) _ C⟩,by rw[aG m];exact hh.kS,⟨by rw[cw];exact hh.dM.1,λj b g=>?_⟩,hh.nd,hh.n1,hh.n2,hh.n3⟩;by_cases o:j=k
 .subst o;rw[e]at g;cases g;refine⟨f++[y],bF,?_⟩;rw[aa,cq (by rw[<-hh.dM.1];exact n)];exact Reps.keep d (λ_ z=>z) _ (i.append (Reps.cons r rfl))
 .obtain⟨D,E,F⟩:=hh.dM.2 j b g;have p:b≠a:=λz=>by subst z;exact o (Bd hh.nd g e)
  refine⟨D,by rw[aG p];exact E,?_⟩;rw[aa,b9 (Ne.symm o),<-aa];exact Reps.keep d (λ_ z=>z) _ F
theorem Hou.E8 (hh:Hou K HC CC H x A h)(f:H A.le=Z9 (.lst b))(r:Reps K H NoB b (h.en.map jD))(g:Rep K H NoB y (jD e)):Hou K HC CC (upd H A.le (.lst (b++[y]))) x A {h with en:=h.en++[e]}:=by obtain⟨n1,n2,n3⟩:=hh.jW f;have c:=wy (ys:=b++[y]) f;obtain⟨i,j,k⟩:=hh.ins;refine⟨⟨i,by rw[aG n1];exact j,Rep.keep c (λ_ z=>z) _ k⟩,⟨by rw[aG n2];exact hh.cH.ins,by rw[aG n3];exact hh.cH.fT,aZ.keep c (λ_ z=>z) _ hh.cH.re⟩,⟨b++[y],bF,?_⟩,by rw[aG (Ne.symm hh.n1)];exact hh.kS,hh.dM.keep (λa d o e=>by rw[aG (λ(z:a=A.le)=>hh.n2 (z▸d))];exact e) (λa o e z=>c a o e (.inr z)),hh.nd,hh.n1,hh.n2,hh.n3⟩;rw[cj];exact Reps.keep c (λ_ z=>z) _ (r.append (Reps.cons g rfl))
theorem Hou.E9 (hh:Hou K HC CC H x A h)(hp:H p=Z9 (.lst ws))(rw':Reps K H NoB ws f)(p1:p∉A.as)(p2:p≠A.le)(p3:p≠A.lf):Hou K HC CC (upd H A.lf (.lst (A.as.map V.ref++[.ref p]))) x {A with as:=A.as++[p]} {h with ft:=h.ft++[f]}:=by
 have ha:=hh.kS;obtain⟨n1,n2,n3⟩:=hh.jW ha;have kn:=wy (ys:=A.as.map V.ref++[.ref p]) ha;obtain⟨vd,i1,i2⟩:=hh.ins;obtain⟨vs,j1,j2⟩:=hh.ent;have hl:=hh.dM.1;refine⟨⟨vd,by rw[aG n1];exact i1,Rep.keep kn (λ_ z=>z) _ i2⟩,⟨by rw[aG n2];exact hh.cH.ins,by rw[aG n3];exact hh.cH.fT,aZ.keep kn (λ_ z=>z) _ hh.cH.re⟩,⟨vs,by rw[aG hh.n1];exact j1,Reps.keep kn (λ_ z=>z) _ j2⟩,by rw[bF,cj];rfl,⟨by rw[aw,aw,hl];rfl,λk a e=>?_⟩,?_,hh.n1,λz=>?_,λz=>?_⟩
 .by_cases hk:k<A.as.length
  .have e:(A.as++[p])[k]?=Z9 a:=e;rw[cy hk]at e;obtain⟨w2,e2,r2⟩:=hh.dM.2 k a e;refine⟨w2,by rw[aG (λ(z:a=A.lf)=>hh.n3 (z▸aq e))];exact e2,?_⟩;rw[aa,cy (hl▸hk),<-aa];exact Reps.keep kn (λ_ z=>z) _ r2
  .have e:(A.as++[p])[k]?=Z9 a:=e;rw[b8 (by omega)]at e;have yZ:k=A.as.length:=by have:=(ax.mp e).1;rw[dr]at this;omega
   subst yZ;rw[fz]at e;cases e;refine⟨ws,by rw[aG p3];exact hp,?_⟩;rw[aa,hl,b8 (ak _),fz];exact Reps.keep kn (λ_ z=>z) _ rw'
 .exact ij.mpr ⟨hh.nd,by simp,λa ha b hb z=>p1 (by rw[<-az.mp hb,<-z];exact ha)⟩
 .rcases bu.mp z with z|z
  .exact hh.n2 z
  .exact p2 (az.mp z).symm
 .rcases bu.mp z with z|z
  .exact hh.n3 z
  .exact p3 (az.mp z).symm
theorem Hou.y6 (hh:Hou K HC CC H x A h)(g:H x=Z9 (.ins HC A.dx [("courts",.ref A.c),("entries",.ref A.le),("fates",.ref A.lf),("last_day",i)])):Hou K HC CC (upd H x (.ins HC A.dx (bU "last_day" (.int n) [("courts",.ref A.c),("entries",.ref A.le),("fates",.ref A.lf),("last_day",i)]))) x A {h with ld:=Z9 n}:=by
 have ne:∀{b:Addr} {o:HO},H b=Z9 o->(∀C dx fs,o≠.ins C dx fs)->b≠x:=λ{b o} e z w=>by subst w;rw[g]at e;cases e;exact z _ _ _ rfl
 have d:∀b o,H b=Z9 o->(NoB (Z9 b)\/Fix o)->upd H x (.ins HC A.dx (bU "last_day" (.int n) [("courts",.ref A.c),("entries",.ref A.le),("fates",.ref A.lf),("last_day",i)])) b=Z9 o:=λb o e z=>by rw[aG (ne e λC dx fs w=>by subst w;exact z.elim id id)];exact e
 obtain⟨l,j,m⟩:=hh.ent;have f:A.c≠x:=λz=>by have:=hh.cH.ins;rw[z,g]at this;injection this with this;injection this with _ _ this;exact absurd (congrArg jh this) (by simp)
 refine⟨⟨.int n,by rw[bF];rfl,rfl⟩,⟨by rw[aG f];exact hh.cH.ins,by rw[aG (ne hh.cH.fT nofun)];exact hh.cH.fT,aZ.keep d (λ_ z=>z) _ hh.cH.re⟩,⟨l,by rw[aG (ne j nofun)];exact j,Reps.keep d (λ_ z=>z) _ m⟩,by rw[aG (ne hh.kS nofun)];exact hh.kS,hh.dM.keep (λa p o e=>?_) (λa o e z=>d a o e (.inr z)),hh.nd,hh.n1,hh.n2,hh.n3⟩;obtain⟨k,q⟩:=ce.mp p;obtain⟨s,r,_⟩:=hh.dM.2 k a q;rw[aG (ne r nofun)];exact e
end
def RuS (φ:dN)(K:Z5)(sp:Sp):Prop:=∃m,sp=spD K 3 m/\∀a b c,φ.G (.tuple [a,b,c])->∃g,m [a,b,c]=.ok (g,.tuple [a,b,c])
theorem Fb (ft:List (List D))(t:D):∀L,(fQ ft L t).length=ft.length:=λL=>by
 unfold fQ
 induction L generalizing ft with
 |nil=>rfl
 |cons k L a=>rw[List.foldl_cons,a,cw]
theorem KH (ft:List (List D))(t:D)(L:List Nat)(k:Nat):fQ ft (L++[k]) t=(fQ ft L t).set k ((fQ ft L t).getD k []++[t]):=by unfold fQ;rw[List.foldl_append];rfl
theorem KI (t:D):∀L ft k m,(∀j,(ft.getD j []).length<=m)->((fQ ft L t).getD k []).length<=m+L.length
 | [],ft,k,m,h=>h k
 |i::L,ft,k,m,h=>by
  have:=KI t L (ft.set i (ft.getD i []++[t])) k (m+1) λj=>by
   rw[aa,du];split
   .split
    .rw[Option.getD_some,aw];have:=h i;show _+1<=m+1;omega
    .exact c9 _
   .have :=h j;rw[aa]at this;omega
  rw[bh];show((fQ (ft.set i (ft.getD i []++[t])) L t).getD k []).length<=_;omega
section
variable (φ:dN)(K:Z5)(HC CC:Addr)(mg:Str->Option Value)
abbrev put1 (K:Z5)(HC CC:Addr)(H:Hp)(x:Addr)(A:Ha)(h:Hd)(Q:VK):Prop:=∀H' p,Frm1 A x H H'->H p=Z8->Hou K HC CC H' x {A with as:=A.as++[p]} h->Q (.int (h.en.length-1:Nat)) H'
def spEn:Sp:=λvs H Q E=>∃x A h n vc c vw w v4 v5 v6 a b r B,vs=[.ref x,.int n,vc,vw,v4,v5,v6]/\Hou K HC CC H x A h/\Hok φ h/\h.en.length<1000/\Rep K H B vc c/\Rep K H B vw (.str w)/\Rep K H B v4 a/\Rep K H B v5 b/\Rep K H B v6 r/\imms [a,b,r]=Z7/\φ.G (.tuple [a,b,r])/\
 if stN h.es c=Z7 then ∃s,c=.str s/\aR h.es 999 s=Z7/\if late h.ld n=Z7 then dI mg "Late" H E else
  match bar φ h s w (.tuple [a,b,r])with
  |some k=>qZ mg H k E
  |none=>put1 K HC CC H x A (h.put n s w (.tuple [a,b,r]) (fll φ h s w (.tuple [a,b,r]))) Q
 else dI mg "NoCourt" H E
end
theorem rD (q:wE Z o σ H λx H1=>tyV Z.K "list" x H1/\wE Z v σ H1 λy H2=>zT x [y] H2 λ_ H3=>D0.nx σ H3):wS Z (.app o v) D0 σ H:=q
theorem wz (q:wE Z e b H λy d=>wE Z o b d λx c=>∃a C dx fs,x=.ref a/\c a=Z9 (.ins C dx fs)/\Cls Z.K C/\z23 Z.K C f/\fs.length<1000/\g.nx b (upd c a (.ins C dx (bU f y fs)))):wS Z (.fld o f e) g b H:=q
theorem Be:ZW "fell"=true:=by decide+kernel
theorem Bf:ZW "entered"=true:=by decide+kernel
theorem eO {K:Z5}(b:H p=Z8)(r:Reps K H NoB a ds):Rep K (upd H p (.tup a)) NoB (.ref p) (.tuple ds):=⟨p,a,rfl,dD.of bF,r.same (Same.upd b) λ_ z=>z⟩
theorem z8p {I:V}(C:HouK Z.K J)(h3:Z.me[2]?=Z9 (J,("felled":Str),spFe X Z.K J CC))(t:Hou Z.K J CC H x A h)(ok:Hok X h)(rc:Rep Z.K H NoB R (.str c))(rw':Rep Z.K H NoB I (.str w))(rm:Rep Z.K H NoB vm r)(hg:X.G r)(L:List Nat)(hL:L=fll X h c w r)(M:D)(htd:M=z8d n h.en.length)
  (q:∀a u,a.length=10->(∀j,j≠9->a[j]?=[Z9 (.ref x),Z9 (.int n),Z9 R,Z9 I,Z9 v4,Z9 v5,Z9 v6,Z9 vm,Z9 (.int h.en.length),b0][j]?)->Frm1 A x H u->Hou Z.K J CC u x A {h with ft:=fQ h.ft L M}->D0.nx a u):
  wS Z (.lS (.nm 9) (.cC (.raw 0) 2 (.cons (.raw 2) (.cons (.raw 3) (.cons (.raw 7) .nil)))) (.seq (.app (.qQ Hs.FA (.raw 9)) Hs.FT) .nil)) D0 [Z9 (.ref x),Z9 (.int n),Z9 R,Z9 I,Z9 v4,Z9 v5,Z9 v6,Z9 vm,Z9 (.int h.en.length),b0] H:=by
 obtain⟨fs,i1,i2⟩:=t.bQ;refine fE h3 (aF rfl ⟨x,A.dx,fs,rfl,i1,i2 _ dc dc dc dc,aI (aF rfl (aI (aF rfl (aI (aF rfl (bJ ⟨x,A,h,R,c,I,w,vm,r,NoB,rfl,t,ok,rc,rw',rm,hg,λH1 p s1 KD hp=>?_⟩))))))⟩);rw[<-hL]at hp;have T2:∀k∈L,k<h.en.length:=λk C=>by rw[hL]at C;exact yX (dn.mp C).1
 have KJ:L.length<=1000:=by rw[hL];refine bj (cn _ _) (bj (cn _ _) ?_);rw[cx];exact ok.big
 have Bg:p∉A.as:=λz=>by obtain⟨k,C⟩:=ce.mp z;obtain⟨S,N,_⟩:=t.dM.2 k p C;rw[KD]at N;cases N
 refine⟨p,rfl,⟨_,SqL.of hp⟩,?_⟩
 let W:Nat->Nat->L2.St->Hp->Prop:=λi m a u=>m=L.length-i/\i<=L.length/\a.length=10/\(∀j,j≠9->a[j]?=[Z9 (.ref x),Z9 (.int n),Z9 R,Z9 I,Z9 v4,Z9 v5,Z9 v6,Z9 vm,Z9 (.int h.en.length),b0][j]?)/\(∀b o,b∉A.as->H1 b=Z9 o->u b=Z9 o)/\Hou Z.K J CC u x A {h with ft:=fQ h.ft (L.take i) M}
 refine⟨W,⟨_,rfl,c9 _,rfl,λ_ _=>rfl,λ_ _ _ e=>e,(t.same s1)⟩,?_⟩
 rintro i m a u ⟨rfl,hi,hl,O,hf,E⟩
 have v:=hf p _ Bg hp;have lL:(oK L).length=L.length:=ae ..;by_cases g:i<L.length
 .refine .inr ⟨⟨_,_,SqL.of v,ac (lL▸g)⟩,W (i+1) (L.length-(i+1)),λtX H2 w=>⟨_,by omega,w⟩,λy H2 F=>?_⟩;obtain⟨rfl,F⟩:=F;have F:=F _ (SqL.of v);have T3:(oK L)[i]?=Z9 (V.int (L[i]:Nat)):=by unfold oK;rw[ao,ac g];rfl
  rw[T3]at F;cases F;generalize P:L[i]=k at *
  have tk:L.take (i+1)=L.take i++[k]:=by rw[kg,ac g,P];rfl
  refine zck (d:=.int k) (B:=AnyB) rfl (by rw[hl];decide) λtX w2 E7 e9 r9 rest=>?_;cases r9;have f:=λj T=>(rest j T).trans (O j T);have l:k<A.as.length:=by rw[t.dM.1,ok.len];exact T2 k (P▸fv g)
  obtain⟨S,N,r1⟩:=E.dM.2 k A.as[k] (ac l);refine rD (EZ (wt C E (f 0 dc) (aF e9 (.inl ⟨A.lf,_,k,.ref A.as[k],rfl,rfl,SqL.of E.kS,?_,.inl ⟨rfl,_,SqL.of N⟩,lU (aI (jC Be λH3 s3=>aI (aF (f 1 dc) (aI (aF (f 8 dc) (bJ ⟨by rw[cb];simp,λp3 Q=>?_⟩))))))⟩))))
  .have :(A.as.map V.ref)[k]?=Z9 (.ref A.as[k]):=by rw[ao,ac l];rfl
   unfold L2.bT;have yZ:L2.gE (A.as.map V.ref).length k=Z9 k:=by unfold L2.gE;rw[tw (by omega),tw (by grind),fh]
   rw[yZ];exact this
  .have s:Same H2 (upd H3 p3 (.tup [.str "fell",.int n,.int h.en.length])):=s3.trans (Same.upd Q);have ea:=s _ _ N
   have wl:S.length<ba:=by
    have h2:=KI M (L.take i) h.ft k 2 λj=>by
     by_cases T:j<h.ft.length
     .have :=(ok.fo _ (aq (Hd.fP T))).2.1;exact this
     .rw[aa];simp_all
    rw[eh]at h2;rw[cb];have h3:((fQ h.ft (L.take i) M).getD k []).length=S.length:=r1.length.symm;omega
   refine⟨A.as[k],S,.ref p3,rfl,rfl,ea,wl,rfl,g,E7.trans hl,f,λb o U e=>?_,?_⟩
   .rw[aG (λ(z:b=A.as[k])=>U (z▸fv l))];exact s b o (hf b o U e)
   .rw[tk,KH];exact(E.same s).iQ (ac l) ea (r1.same s λ_ z=>z) (by rw[htd];exact eO Q (Reps.cons ⟨rfl,Be⟩ (Reps.cons rfl (Reps.cons rfl rfl))))
 .have pB:i=L.length:=by omega
  subst pB;refine .inl ⟨⟨_,SqL.of v,by rw[lL];exact ak _⟩,q a u hl O (λb o U e=>hf b o (λz=>U (.inr (.inr (.inr (.inr z))))) (s1 b o e)) ?_⟩;rw[gw]at E;exact E
section
variable (φ:dN)(K:Z5)(HC CC:Addr)(mg:Str->Option Value)
def spHi:Sp:=λvs H Q _=>∃x dx y dy d kvs es,vs=[.ref x,.ref y]/\H x=Z9 (.ins HC dx [])/\Crt K CC H y dy d kvs es/\z0n [] (es.map ent)=Z9 es/\es.length<1000/\∀H' A,(∀b o,b≠x->H b=Z9 o->H' b=Z9 o)->(∀b,A.own x b->b=x\/H b=Z8)->H A.c=Z8->Hou K HC CC H' x A ⟨es,[],[],Z8⟩->Q .aO H'
end
theorem ze0 {F:V}(I:HouK Z.K y)(h1:Z.me[0]?=Z9 (y,("check_deed":Str),spCd Z.K y CC Z.mg))(h2:Z.me[1]?=Z9 (y,("check_allowed":Str),spCa J Z.K y CC Z.mg))(h3:Z.me[2]?=Z9 (y,("felled":Str),spFe J Z.K y CC))(hz:Z.fn[0]?=Z9 sp)(hs:RuS J Z.K sp)
  (t:Hou Z.K y CC H x A h) (ok:Hok J h) (i:h.en.length<1000) (rc:Rep Z.K H B j c) (rw':Rep Z.K H B F (.str w)) (r4:Rep Z.K H B v4 a) (r5:Rep Z.K H B v5 b) (r6:Rep Z.K H B v6 r) (im:imms [a,b,r]=Z7) (hg:J.G (.tuple [a,b,r]))
  (q:if stN h.es c=Z7 then ∃s,c=.str s/\aR h.es 999 s=Z7/\if late h.ld n=Z7 then dI Z.mg "Late" H Z.E else
   match bar J h s w (.tuple [a,b,r])with
   |some k=>qZ Z.mg H k Z.E
   |none=>put1 Z.K y CC H x A (h.put n s w (.tuple [a,b,r]) (fll J h s w (.tuple [a,b,r]))) D0.rt
  else dI Z.mg "NoCourt" H Z.E):wS Z Hs.enter D0 [Z9 (.ref x),Z9 (.int n),Z9 j,Z9 F,Z9 v4,Z9 v5,Z9 v6,Z8,Z8,Z8] H:=by
 obtain⟨m,rfl,hm⟩:=hs;obtain⟨fs,i1,i2⟩:=t.bQ;refine fE h1 (aF rfl ⟨x,A.dx,fs,rfl,i1,i2 _ (by decide) (by decide) (by decide) (by decide),aI (aF rfl (aI (aF rfl (bJ ⟨x,A,h,j,c,n,B,rfl,t,rc,?_⟩))))⟩);cases T:stN h.es c with
 |false=>rw[T]at q;exact q
 |true=>
 rw[T]at q;obtain⟨s,rfl,he,q⟩:=q;refine⟨⟨s,rfl,he⟩,?_⟩;cases hla:late h.ld n with
 |true=>rw[hla]at q;exact q
 |false=>
 rw[hla]at q;intro H1 s1;obtain⟨g,T4⟩:=hm a b r hg;obtain⟨ia,ib,ir⟩:imm a=Z7/\imm b=Z7/\imm r=true:=by have:=pS.mp im;exact⟨this a (by simp),this b (by simp),this r (by simp)⟩
 have T6:=im;refine tH hz (aI (aF rfl (aI (aF rfl (aI (aF rfl (bJ ⟨AnyB,[a,b,r],_,rfl,Reps.cons (r4.same s1 λ_ _=>trivial) (Reps.cons (r5.same s1 λ_ _=>trivial) (Reps.cons (r6.same s1 λ_ _=>trivial) rfl)),T4,λvm H2 s2 rm=>?_⟩)))))));have rm:Rep Z.K H2 NoB vm (.tuple [a,b,r]):=Rep.aW _ T6 rm;have l:=s1.trans s2;have t2:=t.same l;obtain⟨T7,j1,j2⟩:=t2.bQ;have U:Rep Z.K H2 NoB j (.str s):=Rep.aW _ rfl (rc.same l λ_ z=>z);have W:Rep Z.K H2 NoB F (.str w):=Rep.aW _ rfl (rw'.same l λ_ z=>z);refine fE h2 (aF rfl ⟨x,A.dx,T7,rfl,j1,j2 _ (by decide) (by decide) (by decide) (by decide),aI (aF rfl (aI (aF rfl (aI (aF rfl (bJ ⟨x,A,h,j,s,F,w,vm,_,NoB,rfl,t2,ok,U,W,rm,hg,by unfold z1j;rw[T,he];rfl,?_⟩))))))⟩);cases M:bar J h s w (.tuple [a,b,r])with
 |some k=>rw[M]at q;exact λC H' dp e s' hd xH=>q C H' dp e (l.trans s') (l.none hd) xH
 |none=>
 rw[M]at q;intro H3 s3;have rC:=l.trans s3;have t3:=t.same rC;refine KG (by rw[ae];exact bj ok.big (by decide)) (λR r=>tI I t3 rfl (r AnyB t3.hW)) t3.hW λH4 s4=>?_;have KN:=rC.trans s4;have t4:=t.same KN;have u:=s3.trans s4;rw[ae];generalize hL:fll J h s w (.tuple [a,b,r])=L at q;generalize htd:z8d n h.en.length=td;refine z8p I h3 t4 ok (U.same u λ_ z=>z) (W.same u λ_ z=>z) (rm.same u λ_ z=>z) hg L hL.symm td htd.symm λT8 X Xg d f5 t5=>?_;have T9:=t4.fix f5;have Y:∀b o,H4 b=Z9 o->(NoB (Z9 b)\/Fix o)->X b=Z9 o:=λb o e z=>T9 b o e (z.resolve_left id);have e0:=d 0 (by decide);have N:=d 1 (by decide);have e2:=d 2 (by decide);have e3:=d 3 (by decide);have e7:=d 7 (by decide);have e8:=d 8 (by decide);have Fe:=Rep.keep Y (λ_ z=>z) _ (U.same u λ_ z=>z);have T':=Rep.keep Y (λ_ z=>z) _ (W.same u λ_ z=>z);have Ua:=Rep.keep Y (λ_ z=>z) _ (rm.same u λ_ z=>z);have big:ba>3000:=by rw[cb];decide
 obtain⟨vs,f1,f2⟩:=t5.ent;refine rD (tI I t5 e0 ⟨.inl ⟨rfl,_,SqL.of f1⟩,lU (aI (aF e2 (aI (aF e3 (aI (aF e7 (bJ ⟨by show 3<=ba;omega,λO KO=>?_⟩)))))))⟩);have s6:Same X (upd X O (.tup [j,F,vm])):=Same.upd KO;have vl:vs.length<ba:=by have:=f2.length;rw[ae]at this;have h9:vs.length=h.en.length:=this;omega
 refine⟨A.le,vs,.ref O,rfl,rfl,s6 _ _ f1,vl,?_⟩;have D:=(t5.same s6).E8 (e:=(s,w,.tuple [a,b,r])) (s6 _ _ f1) (f2.same s6 λ_ z=>z) (eO KO (Reps.cons Fe (Reps.cons T' (Reps.cons Ua rfl))));have Ff:∀b o,b≠A.le->X b=Z9 o->upd (upd X O (.tup [j,F,vm])) A.le (.lst (vs++[.ref O])) b=Z9 o:=λb o i e=>by rw[aG i];exact s6 b o e
 have KP:Rep Z.K (upd (upd X O (.tup [j,F,vm])) A.le (.lst (vs++[.ref O]))) NoB j (.str s):=⟨Fe.1,Fe.2⟩;generalize Xi:upd (upd X O (.tup [j,F,vm])) A.le (.lst (vs++[.ref O]))=H7 at D Ff KP;refine rD (wt I D e0 ⟨.inl ⟨rfl,_,SqL.of D.kS⟩,wq (aI (lU (aI (jC Bf λH8 s8=>aI (aF N (aI (aF e2 (bJ ⟨by show 3<=ba;omega,λP KQ=>bJ ⟨by show 1<=ba;omega,λp hp=>?_⟩⟩))))))))⟩);have s9:Same H8 (upd H8 P (.tup [.str "entered",.int n,j])):=Same.upd KQ;have Bh:Same (upd H8 P (.tup [.str "entered",.int n,j])) (upd (upd H8 P (.tup [.str "entered",.int n,j])) p (.lst [.ref P])):=Same.upd hp;have Q:=s8.trans (s9.trans Bh);have KR:=D.same Q;have v:=(s8.trans s9).none hp;have r9:=(eO (ds:=[.str "entered",.int n,.str s]) KQ (Reps.cons ⟨rfl,Bf⟩ (Reps.cons rfl (Reps.cons (KP.same s8 λ_ z=>z) rfl)))).same Bh λ_ z=>z;have Bg:p∉A.as:=λz=>by obtain⟨k,I⟩:=ce.mp z;obtain⟨ws,N,_⟩:=D.dM.2 k p I;rw[v]at N;cases N
 have Fg:p≠A.le:=λz=>by obtain⟨ws,N,_⟩:=D.ent;rw[<-z,v]at N;cases N
 have KS:p≠A.lf:=λz=>by have:=D.kS;rw[<-z,v]at this;cases this
 have al:(A.as.map V.ref).length<ba:=by have h1:=t.dM.1;rw[ae,h1,ok.len];omega
 refine⟨A.lf,_,.ref p,rfl,rfl,KR.kS,al,?_⟩;have Fh:=KR.E9 (f:=[Bc n s]) bF (Reps.cons r9 rfl) Bg Fg KS;have S:∀b o,b≠A.lf->H7 b=Z9 o->upd (upd (upd H8 P (.tup [.str "entered",.int n,j])) p (.lst [.ref P])) A.lf (.lst (A.as.map V.ref++[.ref p])) b=Z9 o:=λb o i e=>by rw[aG i];exact Q b o e
 generalize Ub:upd (upd (upd H8 P (.tup [.str "entered",.int n,j])) p (.lst [.ref P])) A.lf (.lst (A.as.map V.ref++[.ref p]))=KU at Fh S;obtain⟨vd,k1,k2⟩:=Fh.ins;refine wz (aF N (aF e0 ⟨x,y,A.dx,_,rfl,k1,I.cls,I.a4,by show(4:Nat)<1000;decide,?_⟩));subst htd;have Uc:=Fh.y6 (n:=n) k1;show wE Z (.raw 8) T8 _ D0.rt;refine aF e8 ?_;have KW:=λb o i e=>f5 b o i (KN b o e);have fin:=q (upd KU x (.ins y A.dx (bU "last_day" (.int n) _))) p (λb o i e=>?_) ?_ Uc
 .have:((h.put n s w (.tuple [a,b,r]) L).en.length-1:Nat)=h.en.length:=by
   show(h.en++[_]).length-1=_;rw[aw];rfl
  rw[this]at fin;exact fin
 .have n1:b≠x:=λz=>i (.inl z);have n2:=λz=>i (.inr (.inr (.inl z)));have n3:=λz=>i (.inr (.inr (.inr (.inl z))));rw[aG n1];exact S b o n3 (Ff b o n2 (KW b o i e))
 .cases e:H p with
  |none=>rfl
  |some o=>
   exfalso;by_cases i:A.own x p
   .rcases i with z|z|z|z|z
    .obtain⟨vd,i1,_⟩:=D.ins;rw[<-z,v]at i1;cases i1
    .have :=D.cH.fT;rw[<-z,v]at this;cases this
    .exact Fg z
    .exact KS z
    .exact Bg z
   .have :=Ff p o Fg (KW p o i e);rw[v]at this;cases this
theorem Fi:∀{ps:List D} {d es:bA},z0n d ps=Z9 es->imms ps=Z7/\ps.all isPr=Z7
 | [],_,_,_=>⟨rfl,rfl⟩
 |p::ps,d,es,h=>by
  unfold z0n at h;split at h
  .rename_i c a;split at h
   .rename_i e;obtain⟨f,g⟩:=Fi h;obtain⟨i,b⟩:=au.mp e;have j:imm c=true:=by cases c<;>first|(cases i;done)|rfl
    have k:imm a=true:=by
     rcases fi.mp b with b|b
     .cases a<;>first|(cases b;done)|rfl
     .unfold stN at b;cases a<;>first|(cases b;done)|rfl
    exact⟨by show(imms [c,a]&&imms ps)=Z7;rw[f];simp[imms,j,k],by rw[db,g];rfl⟩
   .cases h
  .cases h
theorem Fj {C:Addr}(h:Z.cl[j]?=Z9 (C,sp))(q:wA Z as σ H λvs H1=>∀x dx,H1 x=Z8->H1 dx=Z8->dx≠x->sp (.ref x::(vs++[])) (upd (upd H1 dx (.own x)) x (.ins C dx [])) (λv H2=>v=.aO/\Q (.ref x) H2) Z.E):wE Z (.mk j as) σ H Q:=by show(match Z.cl[j]? with|some r=>xv r.1 r.2 [] Z.E (wA Z as)|none=>fN) σ H Q;rw[h];exact q
theorem ze6 (t:HouK Z.K f)(h1:Z.me[0]?=Z9 (u,("pairs_told":Str),spPt Z.K u))(h2:Z.cl[0]?=Z9 (u,zan Z.K u Z.mg))(S:H x=Z9 (.ins f dx []))(ct:Crt Z.K u H y dy d kvs es)(G:z0n [] (es.map ent)=Z9 es)(hz:es.length<1000)
  (q:∀T U A,(∀b o,b≠x->H b=Z9 o->U b=Z9 o)->(∀b,A.own x b->b=x\/H b=Z8)->H A.c=Z8->Hou Z.K f u U x A ⟨es,[],[],Z8⟩->O.nx T U):wS Z Hs.init O [Z9 (.ref x),Z9 (.ref y)] H:=by
 refine wz (Fj h2 (aI (fE h1 (aF rfl ⟨y,dy,_,rfl,ct.ins,rfl,bJ ⟨y,dy,d,kvs,es,rfl,ct,λV v s1 rv=>bJ λc dc hc W Du=>?_⟩⟩))));have X:Same V (upd (upd V dc (.own c)) c (.ins u dc [])):=λb o e=>by rw[aG (bR e hc),aG (bR e W)];exact e
 have m:=s1.trans X;obtain⟨im,Y⟩:=Fi G;refine⟨c,dc,v,es.map ent,AnyB,rfl,bF,rv.same X λ_ _=>trivial,im,Y,by rw[ae];exact hz,?_⟩;have n:=s1.none hc;generalize Xj:upd (upd V dc (.own c)) c (.ins u dc [])=H2 at X m;unfold uY;rw[G];intro E d3 I Ud k3 B;refine⟨rfl,?_⟩;have J:c≠x:=λz=>by subst z;rw[S]at n;cases n
 have L:=k3 _ _ (Ne.symm J) (m _ _ S);have i:=m.none Ud;have M:=λb o e=>k3 b o (bR e n) (m b o e);refine aF rfl ⟨x,f,dx,[],rfl,L,t.cls,t.a1,by decide,?_⟩;show wS Z (.seq (.fld (.raw 0) "entries" (.lst .nil)) (.seq (.fld (.raw 0) "fates" (.lst .nil)) (.seq (.fld (.raw 0) "last_day" (.aX .aO)) .nil))) O [Z9 (.ref x),Z9 (.ref y)] (upd E x (.ins f dx [("courts",.ref c)]));have k4:∀b o,b≠x->E b=Z9 o->upd E x (.ins f dx [("courts",.ref c)]) b=Z9 o:=λb o g e=>by rw[aG g];exact e
 have P:upd E x (.ins f dx [("courts",.ref c)]) x=Z9 (.ins f dx [("courts",.ref c)]):=bF;generalize upd E x (.ins f dx [("courts",.ref c)])=C at k4 P ⊢;refine wz (wq (bJ ⟨c9 _,λle r=>aF rfl ⟨x,f,dx,_,rfl,by rw[aG (bR P r)];exact P,t.cls,t.a2,by show 1<1000;decide,?_⟩⟩));have h:=Ne.symm (bR P r);have k5:∀b o,b≠x->C b=Z9 o->upd (upd C le (.lst [])) x (.ins f dx [("courts",.ref c),("entries",.ref le)]) b=Z9 o:=λb o g e=>by rw[aG g,aG (bR e r)];exact e
 have Q:upd (upd C le (.lst [])) x (.ins f dx [("courts",.ref c),("entries",.ref le)]) x=Z9 (.ins f dx [("courts",.ref c),("entries",.ref le)]):=bF;have l5:upd (upd C le (.lst [])) x (.ins f dx [("courts",.ref c),("entries",.ref le)]) le=Z9 (.lst []):=by rw[aG h,bF]
 show wS Z (.seq (.fld (.raw 0) "fates" (.lst .nil)) (.seq (.fld (.raw 0) "last_day" (.aX .aO)) .nil)) O [Z9 (.ref x),Z9 (.ref y)] (upd (upd C le (.lst [])) x (.ins f dx [("courts",.ref c),("entries",.ref le)]));generalize upd (upd C le (.lst [])) x (.ins f dx [("courts",.ref c),("entries",.ref le)])=D at k5 Q l5 ⊢;refine wz (wq (bJ ⟨c9 _,λlf j=>aF rfl ⟨x,f,dx,_,rfl,by rw[aG (bR Q j)];exact Q,t.cls,t.a3,by show 2<1000;decide,?_⟩⟩));have l:=Ne.symm (bR Q j);have k6:∀b o,b≠x->D b=Z9 o->upd (upd D lf (.lst [])) x (.ins f dx [("courts",.ref c),("entries",.ref le),("fates",.ref lf)]) b=Z9 o:=λb o g e=>by rw[aG g,aG (bR e j)];exact e
 have x6:upd (upd D lf (.lst [])) x (.ins f dx [("courts",.ref c),("entries",.ref le),("fates",.ref lf)]) x=Z9 (.ins f dx [("courts",.ref c),("entries",.ref le),("fates",.ref lf)]):=bF;have l6:upd (upd D lf (.lst [])) x (.ins f dx [("courts",.ref c),("entries",.ref le),("fates",.ref lf)]) lf=Z9 (.lst []):=by rw[aG l,bF]
 show wS Z (.seq (.fld (.raw 0) "last_day" (.aX .aO)) .nil) O [Z9 (.ref x),Z9 (.ref y)] (upd (upd D lf (.lst [])) x (.ins f dx [("courts",.ref c),("entries",.ref le),("fates",.ref lf)]));generalize upd (upd D lf (.lst [])) x (.ins f dx [("courts",.ref c),("entries",.ref le),("fates",.ref lf)])=H6 at k6 x6 l6 ⊢;refine wz (A8 λH7 R=>aF rfl ⟨x,f,dx,_,rfl,R _ _ x6,t.cls,t.a4,by show 3<1000;decide,?_⟩);have s:∀b o,b≠x->E b=Z9 o->upd H7 x (.ins f dx (bU "last_day" .aO [("courts",.ref c),("entries",.ref le),("fates",.ref lf)])) b=Z9 o:=λb o g e=>by rw[aG g];exact R _ _ (k6 b o g (k5 b o g (k4 b o g e)))
 have fresh:∀p,(C p=Z8\/D p=Z8)->p≠x->H p=none:=λp F N=>by
  cases e:H p with
  |none=>rfl
  |some o=>
   have e4:=k4 p o N (M p o e);rcases F with F|F
   .rw[F]at e4;cases e4
   .rw[k5 p o N e4]at F;cases F
 refine q _ _ ⟨dx,c,dc,d3,le,lf,I,[]⟩ (λb o g e=>s b o g (M b o e)) (λb g=>?_) n ⟨⟨.aO,bF,rfl⟩,⟨s _ _ J B.ins,s _ _ (λz=>by subst z;rw[S]at i;cases i) B.fT,aZ.keep (λb o e z=>s b o (λw=>by subst w;rw[L]at e;cases e;exact z.elim id id) e) (λ_ z=>z) _ B.re⟩,⟨[],by rw[aG h];exact R _ _ (k6 _ _ h l5),rfl⟩,by rw[aG l];exact R _ _ l6,⟨rfl,λk a e=>by cases e⟩,List.nodup_nil,bR l5 j,by simp,by simp⟩;rcases g with rfl|rfl|rfl|rfl|g
 .exact .inl rfl
 .exact .inr i
 .exact .inr (fresh _ (.inl r) h)
 .exact .inr (fresh _ (.inr j) l)
 .cases g
theorem KY (t:D):∀L ft k,L.Nodup->(fQ ft L t).getD k []=if k∈L/\k<ft.length then ft.getD k []++[t]else ft.getD k []
 | [],ft,k,_=>by rw[tx (by simp)];rfl
 |i::L,ft,k,nd=>by
  obtain⟨c,d⟩:=ef.mp nd;show(fQ (ft.set i (ft.getD i []++[t])) L t).getD k []=_;rw[KY t L _ k d,cw]
  have e:(ft.set i (ft.getD i []++[t])).getD k []=if i=k/\k<ft.length then ft.getD k []++[t]else ft.getD k []:=by
   rw[aa,du];by_cases a:i=k
   .subst a;by_cases b:i<ft.length
    .rw[tw rfl,tw b,tw ⟨rfl,b⟩];rfl
    .rw[tw rfl,tx b,tx (λz=>b z.2),aa,ej (by omega)]
   .rw[tx a,tx (λz=>a z.1),aa]
  rw[e];by_cases a:i=k
  .subst a;rw[tx (λz=>c z.1)];by_cases b:i<ft.length
   .rw[tw ⟨rfl,b⟩,tw ⟨by simp,b⟩]
   .rw[tx (λz=>b z.2),tx (λz=>b z.2)]
  .rw[tx (λ(z:i=k/\k<ft.length)=>a z.1)];by_cases hm:k∈L/\k<ft.length
   .rw[tw hm,tw ⟨bc _ hm.1,hm.2⟩]
   .rw[tx hm,tx (λz=>hm ⟨(bq.mp z.1).resolve_left (Ne.symm a),z.2⟩)]
theorem Ue (s w:Str)(r:D):(fll a h s w r).Nodup:=(List.nodup_range.filter _).filter _
theorem Ug (b:k∈fll c h s w r):(h.fa k).length=1:=by have a:=(au.mp ((dn.mp (dn.mp b).1).2)).2;rw[c.s0]at a;exact uc a
theorem Hok.put (ok:Hok a h)(i:h.en.length<1000)(j:a.G r)(l:imm r=Z7)(hc:z1j h.es s=Z7):Hok a (h.put n s w r (fll a h s w r)) where
 len:=by show(fQ h.ft _ _++[_]).length=(h.en++[_]).length;rw[aw,aw,Fb,ok.len];rfl
 big:=by show(h.en++[_]).length<=1000;rw[aw];exact i
 gd:=λe b=>by
  rcases bu.mp b with b|b
  .exact ok.gd e b
  .cases az.mp b;exact⟨j,l,hc⟩
 fo:=λf hf=>by
  rcases bu.mp hf with hf|hf
  .obtain⟨k,d⟩:=ce.mp hf;have c:k<h.ft.length:=by have:=(ax.mp d).1;rw[Fb]at this;exact this
   have e:=KY (z8d n h.en.length) (fll a h s w r) h.ft k (Ue s w r);rw[aa,d]at e;have e:f=if k∈fll a h s w r/\k<h.ft.length then h.ft.getD k []++[z8d n h.en.length]else h.ft.getD k []:=e
   have fo:=ok.fo _ (aq (Hd.fP c));by_cases hm:k∈fll a h s w r
   .rw[tw ⟨hm,c⟩]at e;rw[e];have g:(h.ft.getD k []).length=1:=Ug hm;refine⟨by rw[aw,g];exact Nat.le_add_right _ _,by rw[aw,g];exact ak 2,λr hr=>?_⟩;rcases bu.mp hr with hr|hr
    .exact fo.2.2 r hr
    .cases az.mp hr;rfl
   .rw[tx (λz=>hm z.1)]at e;rw[e];exact fo
  .cases az.mp hf;exact⟨ak 1,j5 1,λr hr=>by cases az.mp hr;rfl⟩
abbrev Cw:=Str×Option Str
def hZ:Option Str->D
 |none=>.none
 |some s=>.str s
def cwD (r:Cw):D:=.tuple [.str r.1,hZ r.2]
theorem Bi (o:Option Str):imm (hZ o)=true:=by cases o<;>rfl
theorem Fo (r:Cw):imm (cwD r)=true:=by show imms [.str r.1,hZ r.2]=Z7;rw[imms,imms,Bi];rfl
def GoodC (rs:List Cw):Prop:=∀(k:Nat) (s a:Str),rs[k]?=Z9 (s,Z9 a)->a∈(rs.take k).map (·.1)
theorem GoodC.snoc (h:GoodC rs)(f:∀a,o=Z9 a->a∈rs.map (·.1)):GoodC (rs++[(s,o)]):=λk g a e=>by
 by_cases d:k<rs.length
 .rw[cy d]at e;rw[ll (i0 d)];exact h k g a e
 .have b:=(ax.mp e).1;rw[aw,dr]at b;have c:k=rs.length:=by omega
  subst c;rw[b8 (ak _),fz]at e;cases e;rw[ll (ak _),gw];exact f a rfl
def esC (rs:List Cw):bA:=rs.map λr=>(.str r.1,hZ r.2)
abbrev nmC (rs:List Cw):List Str:=rs.map (·.1)
theorem Uh (rs:List Cw):(esC rs).map ent=rs.map cwD:=by unfold esC;rw[ei];rfl
theorem Ui (rs:List Cw):(esC rs).length=rs.length:=ae ..
theorem y7 (h:z0g es k=Z9 w):z0g (es++fs) k=Z9 w:=by
 unfold z0g at *
 rw[kh];obtain⟨e,a,b⟩:=bp.mp h;rw[a];exact congrArg Z9 b
theorem KZ (rs:List Cw)(s:Str):z0g (esC rs) (.str s)=(rs.find? λr=>decide (r.1=s)).map λr=>hZ r.2:=by
 unfold z0g esC
 induction rs with
 |nil=>rfl
 |cons r rs ih=>
  rw[br];have hk:eqK (ZV r.1) (.str s)=decide (r.1=s):=rfl;rw[et,et];rw[hk];cases e:decide (r.1=s)with
  |true=>rfl
  |false=>exact ih
theorem stC:stN (esC rs) (.str s)=Z7↔s∈nmC rs:=by
 show(z0g (esC rs) (.str s)).isSome=Z7↔_;rw[KZ,jb,rg,bz];constructor
 .rintro⟨r,a,b⟩
  exact⟨r,a,t8 b⟩
 .rintro⟨r,a,b⟩
  exact⟨r,a,ua b⟩
theorem K0 (h:s∉nmC rs):stN (esC rs) (.str s)=false:=by
 cases e:stN (esC rs) (.str s)with
 |false=>rfl
 |true=>exact absurd (stC.mp e) h
theorem Fp:∀{n m:Nat} {s:Str},aR es n s=Z7->n<=m->aR es m s=Z7
 |0,0,s,h,_=>h
 |0,m+1,s,h,_=>by
  unfold aR at h;split at h
  .rename_i e;show(match z0g es (.str s)with|some .none=>Z7|some (.str a)=>aR es m a|_=>Z6)=Z7;rw[e]
  .cases h
 |n+1,0,_,_,h=>by omega
 |n+1,m+1,s,h,hm=>by
  show(match z0g es (.str s)with|some .none=>Z7|some (.str a)=>aR es m a|_=>Z6)=Z7;have h:(match z0g es (.str s)with|some .none=>Z7|some (.str a)=>aR es n a|_=>Z6)=true:=h;split at h
  .rfl
  .exact Fp h (Nat.le_of_succ_le_succ hm)
  .cases h
theorem K4:∀{n:Nat} {s:Str},aR es n s=Z7->eN (es++fs) n s=eN es n s/\aR (es++fs) n s=Z7
 |0,s,h=>by
  unfold aR at h;split at h
  .rename_i e;refine⟨rfl,?_⟩;show(match z0g (es++fs) (.str s)with|some .none=>Z7|_=>Z6)=Z7;rw[y7 e]
  .cases h
 |n+1,s,h=>by
  unfold aR at h;split at h
  .rename_i e;refine⟨?_,?_⟩
   .show(match z0g (es++fs) (.str s)with|some (.str a)=>s::eN (es++fs) n a|_=>[s])=match z0g es (.str s)with|some (.str a)=>s::eN es n a|_=>[s]
    rw[y7 e,e]
   .show(match z0g (es++fs) (.str s)with|some .none=>Z7|some (.str a)=>aR (es++fs) n a|_=>Z6)=Z7;rw[y7 e]
  .rename_i a e;obtain⟨b,c⟩:=K4 h;refine⟨?_,?_⟩
   .show(match z0g (es++fs) (.str s)with|some (.str a)=>s::eN (es++fs) n a|_=>[s])=match z0g es (.str s)with|some (.str a)=>s::eN es n a|_=>[s]
    rw[y7 e,e];exact congrArg (s:: ·) b
   .show(match z0g (es++fs) (.str s)with|some .none=>Z7|some (.str a)=>aR (es++fs) n a|_=>Z6)=Z7;rw[y7 e];exact c
  .cases h
section
variable {rs:List Cw}
theorem Bj (a:k<rs.length):rs.take (k+1)=rs.take k++[rs[k]]:=by rw[kg,ac a];rfl
theorem K5 (nd:(nmC rs).Nodup)(c:k<rs.length):rs[k].1∉nmC (rs.take k):=λz=>by obtain⟨r,d,e⟩:=bz.mp z;obtain⟨j,a⟩:=ce.mp d;have b:=(ax.mp a).1;rw[eh]at b;rw[jq (by omega)]at a;have:=Bd nd (by rw[ao,a];exact congrArg Z9 e) (by rw[ao,ac c];rfl);omega
theorem Uj (nd:(nmC rs).Nodup)(g:GoodC rs)(b:k<rs.length):iN (esC (rs.take k)) (.str rs[k].1) (hZ rs[k].2)=true:=by
 have c:(z0g (esC (rs.take k)) (.str rs[k].1)).isSome=false:=K0 (K5 nd b);unfold iN;rw[c];cases e:rs[k].2 with
 |none=>rfl
 |some a=>have:=g k rs[k].1 a (by rw[ac b,<-e]);show(Z7&&(Z6||stN (esC (rs.take k)) (.str a)))=Z7;rw[stC.mpr this];rfl
theorem y8 (nd:(nmC rs).Nodup)(g:GoodC rs):∀k,k<=rs.length->∀s∈nmC (rs.take k),aR (esC (rs.take k)) k s=Z7
 |0,_,s,h=>by cases h
 |k+1,c,s,h=>by
  have b:=c;have e:esC (rs.take (k+1))=esC (rs.take k)++[(.str rs[k].1,hZ rs[k].2)]:=by rw[Bj b];unfold esC;rw[cj];rfl
  have old:∀t∈nmC (rs.take k),aR (esC (rs.take (k+1))) k t=true:=λt d=>by rw[e];exact(K4 (y8 nd g k (i0 b) t d)).2
  rw[Bj b]at h;have h:s∈nmC (rs.take k)++[rs[k].1]:=by rw[<-List.map_singleton,<-cj];exact h
  rcases bu.mp h with h|h
  .exact Fp (old s h) (j5 _)
  .have hs:s=rs[k].1:=az.mp h
   have hn:z0g (esC (rs.take (k+1))) (.str s)=Z9 (hZ rs[k].2):=by
    rw[KZ,Bj b,kh];have:(rs.take k).find? (λr=>decide (r.1=s))=none:=by rw[i8];intro r hr z;exact K5 nd b (bz.mpr ⟨r,hr,(t8 z).trans hs⟩)
    rw[this,Option.none_or,et,show decide (rs[k].1=s)=Z7 from ua hs.symm];rfl
   show(match z0g (esC (rs.take (k+1))) (.str s)with|some .none=>Z7|some (.str a)=>aR (esC (rs.take (k+1))) k a|_=>Z6)=Z7;rw[hn];cases f:rs[k].2 with
   |none=>rfl
   |some a=>exact old a (g k rs[k].1 a (by rw[ac b,<-f]))
theorem Fq (nd:(nmC rs).Nodup)(g:GoodC rs)(b:rs.length<=999)(a:k<=rs.length)(h:s∈nmC (rs.take k)):z1j (esC (rs.take k)) s=true:=by unfold z1j;rw[stC.mpr h,Fp (y8 nd g k a s h) (show k<=999 by omega)];rfl
theorem K6 (nd:(nmC rs).Nodup)(g:GoodC rs):∀k,k<=rs.length->z0n [] ((rs.take k).map cwD)=Z9 (esC (rs.take k))
 |0,_=>rfl
 |k+1,hk=>by
  have vf:=hk;have ih:=K6 nd g k (i0 vf)
  have app:∀{ps:List D} {tL es:bA} {c a:D},z0n tL ps=Z9 es->iN es c a=Z7->z0n tL (ps++[.tuple [c,a]])=Z9 (es++[(c,a)]):=λ{ps}=>by
   induction ps with
   |nil=>intro tL es c a e ho;cases e;show(if iN tL c a=Z7 then z0n (tL++[(c,a)]) []else Z8)=_;rw[tw ho];rfl
   |cons p ps ih=>
    intro tL es c a e ho;unfold z0n at e;split at e
    .rename_i c' a';split at e
     .rename_i h9;show(if iN tL c' a'=Z7 then z0n (tL++[(c',a')]) (ps++[.tuple [c,a]])else Z8)=_;rw[tw h9];exact ih e ho
     .cases e
    .cases e
  rw[Bj vf,cj];refine(app ih (Uj nd g vf)).trans ?_;unfold esC;rw[cj];rfl
end
namespace Hl
abbrev Fs (i:Nat)(k:Int):W:=.ix (.raw i) (.aX (.int k))
abbrev Uk:WS:=.seq (.asg 5 (.tup (.cons (.aX (.str "number")) (.cons (.cC (.raw 0) 0 (.cons (.raw 1) (.cons (.raw 2) (.cons (.raw 3) (.cons (Fs 4 0) (.cons (Fs 4 1) (.cons (Fs 4 2) .nil))))))) .nil)))) .nil
abbrev K7:WS:=.seq (.asg 5 (.tup (.cons (.aX (.str "barred")) (.cons (.kA "by") .nil)))) .nil
def te:WS:=.seq (.asg 5 (.aX (.tup (.cons (.str "number") (.cons (.neg (.int 1)) .nil))))) (.seq (.uW Uk (.hn "NotAllowed" (Z9 "by") K7 .nil) 6 7) (.seq (.ret (.raw 5)) .nil))
abbrev rF:WS:=.seq (.ret (.aX (.bl Z6))) .nil
end Hl
theorem dX (q:wE Z e σ H λv H1=>wS Z b D0 (σ.set i (Z9 v)) H1):wS Z (.seq (.asg i e) b) D0 σ H:=q
theorem Ul {rest:WS}(c:wX Z hs ⟨wS Z rest a,a.rt,a.bk,a.ct⟩ i n=E)(q:wS {Z with E:=E} b ⟨wS Z rest a,a.rt,λ_ _=>False,λ_ _=>False⟩ σ H):wS Z (.seq (.uW b hs i n) rest) a σ H:=by subst c;exact q
theorem Bk:ZW "number"=true:=by decide+kernel
theorem Bl:ZW "barred"=true:=by decide+kernel
section
variable (φ:dN)(K:Z5)(HC CC:Addr)(mg:Str->Option Value)
def spTe:Sp:=λvs H Q _=>∃x A h n vc s vw w vm a b r B,vs=[.ref x,.int n,vc,vw,vm]/\Hou K HC CC H x A h/\Hok φ h/\h.en.length<1000/\Rep K H B vc (.str s)/\Rep K H B vw (.str w)/\Rep K H B vm (.tuple [a,b,r])/\imms [a,b,r]=Z7/\φ.G (.tuple [a,b,r])/\z1j h.es s=Z7/\late h.ld n=Z6/\
 match bar φ h s w (.tuple [a,b,r])with
 |some k=>∀H' v,Same H H'->Rep K H' NoB v (.tuple [.str "barred",.int k])->Q v H'
 |none=>∀H' p v,Frm1 A x H H'->H p=Z8->Hou K HC CC H' x {A with as:=A.as++[p]} (h.put n s w (.tuple [a,b,r]) (fll φ h s w (.tuple [a,b,r])))->Rep K H' NoB v (.tuple [.str "number",.int h.en.length])->Q v H'
end
theorem Um (s:Same H a)(hd:H d=Z8):Same H (jB a d):=λb o e=>by unfold jB;rw[tx (bR e hd)];exact s b o e
theorem zp8 {J:V}(T:Z.me[0]?=Z9 (L,("enter":Str),spEn l Z.K L Q Z.mg))(t:Hou Z.K L Q H x A h)(ok:Hok l h)(M:h.en.length<1000)(rc:Rep Z.K H B R (.str s))(N:Rep Z.K H B J (.str w))(rm:Rep Z.K H B U (.tuple [a,b,r]))(W:imms [a,b,r]=Z7)(X:l.G (.tuple [a,b,r]))(hc:z1j h.es s=Z7)(O:late h.ld n=Z6)
  (q:match bar l h s w (.tuple [a,b,r])with
   |some k=>∀d v,Same H d->Rep Z.K d NoB v (.tuple [.str "barred",.int k])->m.rt v d
   |none=>∀d p v,Frm1 A x H d->H p=Z8->Hou Z.K L Q d x {A with as:=A.as++[p]} (h.put n s w (.tuple [a,b,r]) (fll l h s w (.tuple [a,b,r])))->Rep Z.K d NoB v (.tuple [.str "number",.int h.en.length])->m.rt v d):
  wS Z Hl.te m [Z9 (.ref x),Z9 (.int n),Z9 R,Z9 J,Z9 U,Z8,Z8] H:=by
 have big:ba>3000:=by rw[cb];decide
 refine dX (Ks wm rfl λv0 H0 s0 _=>?_);obtain⟨Y,g5⟩:=au.mp hc;generalize S:wX Z (.hn "NotAllowed" (Z9 "by") Hl.K7 .nil) ⟨wS Z (.seq (.ret (.raw 5)) .nil) m,m.rt,m.bk,m.ct⟩ 6 7=E;refine Ul S (dX (lU (aI (jC Bk λH1 s1=>aI (fE T (aF rfl ?_))))));have g:=s0.trans s1;obtain⟨fs,i1,i2⟩:=(t.same g).bQ;have i:=rm.same g λ_ z=>z;refine⟨x,A.dx,fs,rfl,i1,i2 _ dc dc dc dc,aI (aF rfl (aI (aF rfl (aI (aF rfl (aI (gP (aF rfl (kR λH2 y=>gC (i.same y λ_ z=>z) rfl λw4 r4=>aI (gP (aF rfl (kR λH3 D=>gC (i.same (y.trans D) λ_ z=>z) rfl λw5 r5=>aI (gP (aF rfl (kR λH4 F=>gC (i.same (y.trans (D.trans F)) λ_ z=>z) rfl λw6 r6=>bJ ?_)))))))))))))))⟩;have c:=g.trans (y.trans (D.trans F));refine⟨x,A,h,n,R,.str s,J,w,w4,w5,w6,a,b,r,B,rfl,t.same c,ok,M,rc.same c λ_ z=>z,N.same c λ_ z=>z,r4.same (D.trans F) λ_ z=>z,r5.same F λ_ z=>z,r6,W,X,?_⟩;rw[tw Y];refine⟨s,rfl,g5,?_⟩;rw[tx (by rw[O];decide)];cases f:bar l h s w (.tuple [a,b,r])with
 |some k=>rw[f]at q;intro C H5 dp hC s5 hd P;rw[<-S];refine .inl ⟨C,hC,rfl,dp,_,rfl,P,?_⟩;refine dX (lU (aI (jC Bl λH6 s6=>aI (TC rfl (bJ ⟨by show 2<=ba;omega,λp I=>?_⟩)))));refine⟨.ref p,rfl,q _ _ ((Um (c.trans s5) (c.none hd)).trans (s6.trans (Same.upd I))) ?_⟩;exact eO I (Reps.cons ⟨rfl,Bl⟩ (Reps.cons rfl rfl))
 |none=>
  rw[f]at q;intro H5 p f5 I t5;refine bJ ⟨by show 2<=ba;omega,λp6 j=>?_⟩;have u:((h.put n s w (.tuple [a,b,r]) (fll l h s w (.tuple [a,b,r]))).en.length-1:Nat)=h.en.length:=by show(h.en++[_]).length-1=_;rw[aw];rfl
  rw[u];refine⟨.ref p6,rfl,q _ p _ (λb o M e=>Same.upd j b o (f5 b o M (c b o e))) (c.none I) (t5.same (Same.upd j)) ?_⟩;exact eO j (Reps.cons ⟨rfl,Bk⟩ (Reps.cons rfl rfl))
theorem eP (q:wS Z a {c with nx:=wS Z b c} σ H):wS Z (.seq a b) c σ H:=q
theorem lX (q:wT Z c d H λk e=>if k=Z7 then wS Z a f d e else wS Z b f d e):wS Z (.bN c a b) f d H:=q
theorem fU (Z:Wc)(q:a.nx b H):wS Z .nil a b H:=q
theorem tM (q:wE Z e a H c.rt):wS Z (.seq (.ret e) b) c a H:=q
theorem Ft (ks:List Nat):bE 40 (.list (z0o ks))=true:=pA.mpr λx a=>by obtain⟨k,_,rfl⟩:=bz.mp a;rfl
end Mi
namespace Mk
open PySem Mi
def y9:S:=(.seq (.bN (.not (.and (.tv (.fY (.var 0) ["str"])) (.tv (.cmp .In (.var 0) (.tup (.cons (.str "for") (.cons (.str "against") .nil)))))))
 (.seq .bad
 .nil)
 .nil)
 .nil)
def rE:Fn:=aQ [] [] 1 y9
def za:S:=(.seq (.drop (.call 0 "check_side" (.cons (.var 0) .nil)))
 (.seq (.ret (.sD (.tv (.cmp .Eq (.var 0) (.str "for"))) (.str "against") (.str "for")))
 .nil))
def lY:Fn:=aQ [] [rE] 1 za
def zb:S:=(.seq (.drop (.call 0 "check_side" (.cons (.var 1) .nil)))
 (.seq (.ret (.sD (.tv (.cmp .Eq (.var 1) (.str "for"))) (.ix (.var 0) (.int 0)) (.ix (.var 0) (.int 1))))
 .nil))
def hX:Fn:=aQ [] [rE] 2 zb
def zc:S:=(.seq (.asg (.nm 2) (.kJ "dict" (.tv (.var 1))))
 (.seq (.ret (.comp 2 [2] ["name","amount","held"] (.tp [0,1]) (.tv (.var 0)) (.tv (.cmp .Gt (.var 1) (.mt "get" (.var 2) (.cons (.var 0) (.cons (.int 0) .nil))))) (.var 0)))
 .nil))
def lZ:Fn:=aQ [] [] 3 zc
def zd:S:=(.seq (.ret (.cmp .Eq (.call 0 "over" (.cons (.var 0) (.cons (.var 1) .nil))) (.lst .nil))) .nil)
def oO:Fn:=aQ [] [lZ] 2 zd
def ze:S:=(.seq (.bN (.not (.tv (.call 0 "within" (.cons (.var 2) (.cons (.call 1 "side_of" (.cons (.var 0) (.cons (.var 1) .nil))) .nil)))))
 (.seq .bad
 .nil)
 .nil)
 (.seq (.ret (.tup (.cons (.var 0) (.cons (.var 1) (.cons (.var 2) .nil)))))
 .nil))
def rG:Fn:=aQ [] [oO,hX] 3 ze
def vh:S:=(.seq (.ret (.call 0 "side_of" (.cons (.ix (.var 0) (.int 0)) (.cons (.call 1 "other_side" (.cons (.ix (.var 0) (.int 1)) .nil)) .nil)))) .nil)
def l':Fn:=aQ [] [hX,lY] 1 vh
def vi:S:=(.seq (.asg (.nm 2) (.ix (.var 0) (.int 1)))
 (.seq (.asg (.nm 3) (.call 0 "over" (.cons (.ix (.var 0) (.int 2)) (.cons (.call 2 "side_of" (.cons (.var 1) (.cons (.var 2) .nil))) .nil))))
 (.seq (.asg (.nm 4) (.call 0 "over" (.cons (.call 2 "side_of" (.cons (.var 1) (.cons (.call 3 "other_side" (.cons (.var 2) .nil)) .nil))) (.cons (.call 1 "opposed_of" (.cons (.var 0) .nil)) .nil))))
 (.seq (.ret (.bin .Add (.comp 1 [] ["name"] (.nm 0) (.tv (.var 3)) .nil (.tup (.cons (.str "less") (.cons (.var 0) .nil)))) (.comp 1 [] ["name"] (.nm 0) (.tv (.var 4)) .nil (.tup (.cons (.str "more") (.cons (.var 0) .nil))))))
 .nil))))
def rH:Fn:=aQ [] [lZ,l',hX,lY] 5 vi
def vj:S:=(.seq (.ret (.cmp .Eq (.call 0 "apart" (.cons (.var 0) (.cons (.var 1) .nil))) (.lst .nil))) .nil)
def gD:Fn:=aQ [] [rH] 2 vj
def zf:S:=(.seq (.ret (.and (.cmp .NotEq (.ix (.var 0) (.int 1)) (.ix (.var 1) (.int 1))) (.and (.call 0 "within" (.cons (.ix (.var 0) (.int 2)) (.cons (.call 1 "side_of" (.cons (.ix (.var 1) (.int 0)) (.cons (.ix (.var 0) (.int 1)) .nil))) .nil))) (.call 0 "within" (.cons (.ix (.var 1) (.int 2)) (.cons (.call 1 "side_of" (.cons (.ix (.var 0) (.int 0)) (.cons (.ix (.var 1) (.int 1)) .nil))) .nil)))))) .nil)
def hY:Fn:=aQ [] [oO,hX] 2 zf
def K8:S:=(.seq (.bH (.tp [2,3]) (.enum (.var 0))
 (.seq (.bN (.tv (.call 0 "binds" (.cons (.var 3) (.cons (.var 1) .nil))))
 (.seq (.ret (.tup (.cons (.ix (.var 3) (.int 1)) (.cons (.var 2) .nil))))
 .nil)
 .nil)
 .nil))
 (.seq (.ret .aO)
 .nil))
def zb1:Fn:=aQ [] [gD] 4 K8
def K9:S:=(.seq (.bH (.tp [2,3]) (.enum (.var 0))
 (.seq (.bN (.tv (.call 0 "against" (.cons (.var 3) (.cons (.var 1) .nil))))
 (.seq (.ret (.var 2))
 .nil)
 .nil)
 .nil))
 (.seq (.ret .aO)
 .nil))
def Bm:Fn:=aQ [] [hY] 4 K9
def K':S:=(.seq (.bN (.tv (.iY Z6 (.var 1)))
 (.seq (.ret (.cmp .Eq (.bi "len" (.cons (.var 0) .nil)) (.int 1)))
 .nil)
 .nil)
 (.seq (.ret (.and (.cmp .LtE (.ix (.ix (.var 0) (.int 0)) (.int 1)) (.var 1)) (.or (.cmp .Eq (.bi "len" (.cons (.var 0) .nil)) (.int 1)) (.cmp .Gt (.ix (.ix (.var 0) (.int 1)) (.int 1)) (.var 1)))))
 .nil))
def zg:Fn:=aQ [] [] 2 K'
def La:S:=(.seq (.bN (.tv (.cmp .Lt (.var 1) (.bi "len" (.cons (.var 0) .nil))))
 (.seq (.ret (.ix (.var 0) (.var 1)))
 .nil)
 .nil)
 (.seq (.ret (.int 0))
 .nil))
def zh:Fn:=aQ [] [] 2 La
def Lb:S:=(.seq (.ret (.and (.fY (.var 0) ["int"]) (.not (.fY (.var 0) ["bool"])))) .nil)
def Fv:Fn:=aQ [] [] 1 Lb
def Lc:S:=(.seq (.asg (.nm 2) (.bin .Mod (.bin .Mult (.bin .Add (.bin .Add (.bin .Add (.bin .Mod (.var 0) (.int 2147483647)) (.bin .Mult (.bin .Mult (.int 7919) (.var 1)) (.var 1))) (.bin .Mult (.var 1) (.var 1))) (.int 1)) (.int 48271)) (.int 2147483629)))
 (.seq (.ret (.bin .Mod (.bin .Mult (.var 2) (.var 2)) (.int 2147483587)))
 .nil))
def kT:Fn:=aQ [] [] 3 Lc
def Ld:S:=(.seq (.bN (.tv (.var 2))
 (.seq (.ret (.tup (.cons (.ix (.var 0) (.var 1)) (.cons (.bl Z7) .nil))))
 .nil)
 .nil)
 (.seq (.ret (.tup (.cons (.call 0 "_law_mix" (.cons (.ix (.var 0) (.var 1)) (.cons (.var 1) .nil))) (.cons (.bl Z6) .nil))))
 .nil))
def Fw:Fn:=aQ [] [kT] 3 Ld
def Fx:S:=(.seq (.asg (.tp [2,3]) (.var 0))
 (.seq (.bN (.not (.tv (.var 3)))
 (.seq (.ret (.bin .Mod (.call 0 "_law_mix" (.cons (.var 2) (.cons (.var 1) .nil))) (.int 60)))
 .nil)
 .nil)
 (.seq (.bH (.nm 4) (.eI (.cons (.var 1) .nil))
 (.seq (.asg (.nm 2) (.bin .FloorDiv (.var 2) (.int 60)))
 .nil))
 (.seq (.ret (.bin .Mod (.var 2) (.int 60)))
 .nil))))
def iA:Fn:=aQ [] [kT] 5 Fx
def Fy:S:=(.seq (.asg (.nm 2) (.str "abcdefghijklmnopqrstuvwxyz"))
 (.seq (.asg (.nm 3) (.mt "join" (.str "") (.cons (.comp 1 [2,0] ["_law_k","_law_letters","_law_cell_here"] (.nm 0) (.eI (.cons (.bin .Mod (.call 0 "_law_mix" (.cons (.var 0) (.cons (.int 29) .nil))) (.int 10)) .nil)) .nil (.ix (.var 1) (.bin .Mod (.call 0 "_law_mix" (.cons (.var 2) (.cons (.bin .Add (.int 30) (.var 0)) .nil))) (.int 26)))) .nil)))
 (.seq (.asg (.nm 4) (.bin .Mod (.call 0 "_law_mix" (.cons (.var 0) (.cons (.int 28) .nil))) (.bin .Add (.bi "len" (.cons (.var 3) .nil)) (.int 1))))
 (.seq (.asg (.nm 5) (.lst (.cons (.str "j") (.cons (.str "q") (.cons (.str "v") (.cons (.str "x") (.cons (.str "z") (.cons (.str "jz") (.cons (.str "qz") (.cons (.str "vz") (.cons (.str "xz") (.cons (.str "zj") .nil))))))))))))
 (.seq (.ret (.comp 1 [3,5,4,0] ["_law_k","_law_base","_law_signs","_law_at","_law_cell_here"] (.nm 0) (.eI (.cons (.var 1) .nil)) .nil (.bin .Add (.bin .Add (.sl (.var 1) .nil (.tv (.var 3))) (.ix (.var 2) (.bin .Mod (.bin .Add (.var 0) (.var 4)) (.int 10)))) (.sl (.var 1) (.tv (.var 3)) .nil))))
 .nil)))))
def Fz:Fn:=aQ [] [kT] 6 Fy
def Le:S:=(.seq (.ret (.ix (.lst (.cons (.int 0) (.cons (.int 1) (.cons (.int 2) (.cons (.var 1) (.cons (.bin .Add (.var 1) (.int 1)) (.cons (.int 0) .nil))))))) (.bin .Mod (.var 0) (.int 6)))) .nil)
def tN:Fn:=aQ [] [] 2 Le
def Lf:S:=(.seq (.asg (.nm 4) (.comp 1 [0,3,1,2] ["_law_k","_law_names_here","_law_great_here","_law_cell_here","_law_at"] (.nm 0) (.eI (.cons (.bi "len" (.cons (.var 0) .nil)) .nil)) .nil (.tup (.cons (.ix (.var 1) (.var 0)) (.cons (.call 0 "_law_degree" (.cons (.call 1 "_law_pick" (.cons (.var 3) (.cons (.bin .Add (.var 4) (.var 0)) .nil))) (.cons (.var 2) .nil))) .nil)))))
 (.seq (.ret (.kJ "tuple" (.tv (.kJ "sorted" (.tv (.comp 1 [] ["_law_pair"] (.nm 0) (.tv (.var 4)) (.tv (.cmp .Gt (.ix (.var 0) (.int 1)) (.int 0))) (.var 0)))))))
 .nil))
def wB:Fn:=aQ [] [tN,iA] 5 Lf
def Lg:S:=(.seq (.asg (.nm 2) (.kJ "dict" (.tv (.var 1))))
 (.seq (.bH (.tp [3,4]) (.tv (.var 0))
 (.seq (.bN (.tv (.cmp .Gt (.var 4) (.mt "get" (.var 2) (.cons (.var 3) (.cons (.int 0) .nil)))))
 (.seq (.ret (.bl Z6))
 .nil)
 .nil)
 .nil))
 (.seq (.ret (.bl Z7))
 .nil)))
def vo:Fn:=aQ [] [] 5 Lg
def Lh:S:=(.seq (.asg (.nm 2) (.kJ "dict" (.tv (.var 1))))
 (.seq (.asg (.nm 3) (.comp 1 [2] ["_law_pair","_law_some"] (.nm 0) (.tv (.var 0)) .nil (.tup (.cons (.ix (.var 0) (.int 0)) (.cons (.bi "min" (.cons (.ix (.var 0) (.int 1)) (.cons (.mt "get" (.var 1) (.cons (.ix (.var 0) (.int 0)) (.cons (.int 0) .nil))) .nil))) .nil)))))
 (.seq (.ret (.kJ "tuple" (.tv (.comp 1 [] ["_law_pair"] (.nm 0) (.tv (.var 3)) (.tv (.cmp .Gt (.ix (.var 0) (.int 1)) (.int 0))) (.var 0)))))
 .nil)))
def zi:Fn:=aQ [] [] 4 Lh
def Li:S:=(.seq (.bN (.tv (.var 1))
 (.seq (.ret (.bin .Add (.int 3) (.bin .Mod (.bin .FloorDiv (.var 0) (.int 60)) (.bin .Sub (.bin .Pow (.int 10) (.int 30)) (.int 4)))))
 .nil)
 .nil)
 (.seq (.ret (.bin .Add (.int 3) (.bin .Mod (.bin .Mult (.bin .Mult (.bin .Mult (.call 0 "_law_mix" (.cons (.var 0) (.cons (.int 50) .nil))) (.call 0 "_law_mix" (.cons (.var 0) (.cons (.int 51) .nil)))) (.call 0 "_law_mix" (.cons (.var 0) (.cons (.int 52) .nil)))) (.call 0 "_law_mix" (.cons (.var 0) (.cons (.int 53) .nil)))) (.bin .Sub (.bin .Pow (.int 10) (.int 30)) (.int 4)))))
 .nil))
def FC:Fn:=aQ [] [kT] 2 Li
def Lj:S:=(.seq (.ret (.tup (.cons (.call 0 "_law_pack" (.cons (.sl (.var 0) .nil (.tv (.int 2))) (.cons (.var 1) (.cons (.var 2) (.cons (.var 3) .nil))))) (.cons (.call 0 "_law_pack" (.cons (.sl (.var 0) (.tv (.int 1)) (.tv (.int 3))) (.cons (.var 1) (.cons (.bin .Add (.var 2) (.int 2)) (.cons (.var 3) .nil))))) .nil)))) .nil)
def wC:Fn:=aQ [] [wB] 4 Lj
def Lk:S:=(.seq (.ret (.ix (.var 0) (.bi "int" (.cons (.cmp .Eq (.var 1) (.str "against")) .nil)))) .nil)
def pG:Fn:=aQ [] [] 2 Lk
def Ll:S:=(.seq (.ret (.ix (.lst (.cons (.str "for") (.cons (.str "against") .nil))) (.bi "int" (.cons (.cmp .Eq (.var 0) (.str "for")) .nil)))) .nil)
def FD:Fn:=aQ [] [] 1 Ll
def Lm:S:=(.seq (.bN (.tv (.cmp .Eq (.ix (.var 0) (.int 1)) (.ix (.var 1) (.int 1))))
 (.seq (.ret (.bl Z6))
 .nil)
 .nil)
 (.seq (.bN (.not (.tv (.call 0 "_law_within" (.cons (.ix (.var 0) (.int 2)) (.cons (.call 1 "_law_side" (.cons (.ix (.var 1) (.int 0)) (.cons (.ix (.var 0) (.int 1)) .nil))) .nil)))))
 (.seq (.ret (.bl Z6))
 .nil)
 .nil)
 (.seq (.ret (.call 0 "_law_within" (.cons (.ix (.var 1) (.int 2)) (.cons (.call 1 "_law_side" (.cons (.ix (.var 0) (.int 0)) (.cons (.ix (.var 1) (.int 1)) .nil))) .nil))))
 .nil)))
def FE:Fn:=aQ [] [vo,pG] 2 Lm
def FF:S:=(.seq (.asg (.nm 2) (.call 2 "_law_other" (.cons (.ix (.var 0) (.int 1)) .nil)))
 (.seq (.ret (.and (.call 0 "_law_within" (.cons (.ix (.var 0) (.int 2)) (.cons (.call 1 "_law_side" (.cons (.var 1) (.cons (.ix (.var 0) (.int 1)) .nil))) .nil))) (.call 0 "_law_within" (.cons (.call 1 "_law_side" (.cons (.var 1) (.cons (.var 2) .nil))) (.cons (.call 1 "_law_side" (.cons (.ix (.var 0) (.int 0)) (.cons (.var 2) .nil))) .nil)))))
 .nil))
def wD:Fn:=aQ [] [vo,pG,FD] 3 FF
def FG:S:=(.seq (.asg (.nm 3) (.call 4 "_law_case" (.cons (.var 0) (.cons (.var 1) (.cons (.int 4) (.cons (.var 2) .nil))))))
 (.seq (.asg (.nm 4) (.ix (.lst (.cons (.str "for") (.cons (.str "against") .nil))) (.bin .Mod (.call 0 "_law_pick" (.cons (.var 1) (.cons (.int 8) .nil))) (.int 2))))
 (.seq (.asg (.nm 5) (.call 3 "_law_side" (.cons (.var 3) (.cons (.var 4) .nil))))
 (.seq (.bN (.tv (.cmp .Gt (.bin .Mod (.call 0 "_law_pick" (.cons (.var 1) (.cons (.int 9) .nil))) (.int 3)) (.int 0)))
 (.seq (.asg (.nm 5) (.call 1 "_law_meet" (.cons (.var 5) (.cons (.call 2 "_law_pack" (.cons (.sl (.var 0) .nil (.tv (.int 3))) (.cons (.var 1) (.cons (.int 10) (.cons (.var 2) .nil))))) .nil))))
 .nil)
 .nil)
 (.seq (.ret (.tup (.cons (.var 3) (.cons (.var 4) (.cons (.var 5) .nil)))))
 .nil)))))
def FH:Fn:=aQ [] [iA,zi,wB,pG,wC] 6 FG
def Ln:S:=(.seq (.asg (.nm 2) (.lst (.cons (.tup (.cons (.ix (.var 1) (.int 0)) (.cons .aO .nil))) .nil)))
 (.seq (.bH (.nm 3) (.eI (.cons (.int 1) (.cons (.int 5) .nil)))
 (.seq (.asg (.nm 4) (.bin .Add (.bin .Add (.lst (.cons .aO .nil)) (.comp 1 [] ["_law_row"] (.nm 0) (.tv (.var 2)) .nil (.ix (.var 0) (.int 0)))) (.lst (.cons (.ix (.ix (.var 2) (.neg (.int 1))) (.int 0)) .nil))))
 (.seq (.mut "append" 2 (.cons (.tup (.cons (.ix (.var 1) (.var 3)) (.cons (.ix (.var 4) (.bin .Mod (.call 0 "_law_pick" (.cons (.var 0) (.cons (.var 3) .nil))) (.bi "len" (.cons (.var 4) .nil)))) .nil))) .nil))
 .nil)))
 (.seq (.ret (.var 2))
 .nil)))
def Bn:Fn:=aQ [] [iA] 5 Ln
def Lo:S:=(.seq (.asg (.nm 2) (.kJ "dict" (.tv (.var 0))))
 (.seq (.asg (.nm 3) (.lst (.cons (.var 1) .nil)))
 (.seq (.wh 100000 (.tv (.iY Z7 (.ix (.var 2) (.ix (.var 3) (.neg (.int 1))))))
 (.seq (.mut "append" 3 (.cons (.ix (.var 2) (.ix (.var 3) (.neg (.int 1)))) .nil))
 .nil))
 (.seq (.ret (.var 3))
 .nil))))
def pH:Fn:=aQ [] [] 4 Lo
def Lp:S:=(.seq (.asg (.nm 4) (.call 0 "_law_line" (.cons (.var 0) (.cons (.var 2) .nil))))
 (.seq (.asg (.nm 5) (.lst .nil))
 (.seq (.bH (.nm 6) (.eI (.cons (.bi "len" (.cons (.var 1) .nil)) .nil))
 (.seq (.asg (.nm 7) (.ix (.var 1) (.var 6)))
 (.seq (.bN (.and (.tv (.cmp .Eq (.ix (.var 7) (.str "word")) (.var 3))) (.and (.tv (.cmp .In (.ix (.var 7) (.str "court")) (.var 4))) (.tv (.cmp .Eq (.bi "len" (.cons (.ix (.var 7) (.str "fate")) .nil)) (.int 1)))))
 (.seq (.mut "append" 5 (.cons (.var 6) .nil))
 .nil)
 .nil)
 .nil)))
 (.seq (.ret (.var 5))
 .nil))))
def FI:Fn:=aQ [] [pH] 8 Lp
def Lq:S:=(.seq (.asg (.nm 5) (.call 0 "_law_line" (.cons (.var 0) (.cons (.var 2) .nil))))
 (.seq (.asg (.nm 6) (.lst .nil))
 (.seq (.bH (.nm 7) (.eI (.cons (.bi "len" (.cons (.var 1) .nil)) .nil))
 (.seq (.asg (.nm 8) (.ix (.var 1) (.var 7)))
 (.seq (.asg (.nm 9) (.comp 1 [4] ["_law_row","_law_date"] (.nm 0) (.tv (.sl (.ix (.var 8) (.str "fate")) (.tv (.int 1)) .nil)) (.tv (.cmp .LtE (.ix (.var 0) (.int 1)) (.var 1))) (.var 0)))
 (.seq (.bN (.and (.tv (.cmp .Eq (.ix (.var 8) (.str "word")) (.var 3))) (.and (.tv (.cmp .In (.ix (.var 8) (.str "court")) (.var 5))) (.and (.tv (.cmp .LtE (.ix (.ix (.ix (.var 8) (.str "fate")) (.int 0)) (.int 1)) (.var 4))) (.tv (.cmp .Eq (.var 9) (.lst .nil))))))
 (.seq (.mut "append" 6 (.cons (.var 7) .nil))
 .nil)
 .nil)
 .nil))))
 (.seq (.ret (.var 6))
 .nil))))
def Bp:Fn:=aQ [] [pH] 10 Lq
def Ls:S:=(.seq (.bH (.nm 3) (.tv (.var 1))
 (.seq (.bN (.tv (.call 0 "_law_binds" (.cons (.ix (.ix (.var 0) (.var 3)) (.str "ruling")) (.cons (.var 2) .nil))))
 (.seq (.ret (.tup (.cons (.ix (.ix (.ix (.var 0) (.var 3)) (.str "ruling")) (.int 1)) (.cons (.var 3) .nil))))
 .nil)
 .nil)
 .nil))
 (.seq (.ret .aO)
 .nil))
def FJ:Fn:=aQ [] [wD] 4 Ls
def Lu:S:=(.seq (.bN (.tv (.iY Z6 (.var 1)))
 (.seq (.ret (.iY Z6 (.var 0)))
 .nil)
 .nil)
 (.seq (.bN (.or (.not (.tv (.fY (.var 0) ["tuple"]))) (.or (.tv (.cmp .NotEq (.bi "len" (.cons (.var 0) .nil)) (.int 2))) (.or (.not (.tv (.fY (.ix (.var 0) (.int 0)) ["str"]))) (.not (.tv (.call 0 "_law_whole" (.cons (.ix (.var 0) (.int 1)) .nil)))))))
 (.seq (.ret (.bl Z6))
 .nil)
 .nil)
 (.seq (.ret (.cmp .Eq (.var 0) (.var 1)))
 .nil)))
def z95:Fn:=aQ [] [Fv] 2 Lu
theorem vq (hb:PK b):lZ [pk a,pk b]=.ok (.fr,.list ((a.filter λp=>decide (look b p.1<p.2)).map λp=>.str p.1)):=by exact cU (cZ (AJ (yD (aC rfl) rfl (Ej _ hb.nd) (JC b)) (D' b)) (bO (Ex nofun (z2n (λp=>decide (look b p.1<p.2)) (λp=>.str p.1) (fK (v_var rfl (fM a)).1 rfl) rfl (λp=>[Z9 (.al,.str p.1),Z9 (.al,.int p.2),Z9 (.al,.dict (en b))]) (λp _=>rfl) (λp _=>aP (bZ (aC rfl) (qO (aC rfl) (aD (aC rfl) (aD aJ.e aN)) (Ei _ _) rfl).e rfl).e rfl) (λp _ _=>v_var rfl rfl)))))
theorem FK (a:List D)(h:fZ 39 a=Z7):cmpD .Eq (.list a) (.list [])=.ok a.isEmpty:=by show(if(bE 40 (.list a)&&bE 40 (.list []))=Z7 then Res.ok (gI (.list a) (.list []))else .no)=_;rw[tw (by show(fZ 39 a&&Z7)=Z7;rw[h];rfl)];cases a<;>simp[gI,PyData.eqv,PyData.eqvAll]
theorem Bb (l:P):fZ 39 (l.map λp=>ZV p.1)=true:=pA.mpr λx a=>by obtain⟨p,_,rfl⟩:=bz.mp a;rfl
def wi (a b:P):Bool:=(a.filter λp=>decide (look b p.1<p.2)).isEmpty
theorem vt (c:PK b):oO [pk a,pk b]=.ok (.fr,.bool (wi a b)):=by refine cU (bO (cB (bZ (eX (aD (aC rfl) (aD (aC rfl) aN)) rfl (vq c)) (Ev.of (kO eB)) ?_)));rw[FK _ (Bb _)];unfold wi;rw[jm]
theorem Uo (c:PK a)(d:PK b):wi a b=Z7↔∀n,look a n<=look b n:=by
 unfold wi;rw[ku,kl];constructor
 .intro h n;by_cases hn:n∈ks a
  .obtain⟨v,e⟩:=R6 hn;have:=h _ (D6 e);have f:look a n=v:=by unfold look;rw[e];rfl
   simp only[decide_eq_true_eq]at this;rw[f];omega
  .have :look a n=0:=by unfold look;rw[Jx hn];rfl
   rw[this];exact d.qM n
 .intro h p g;have:=h p.1;rw[c.iL g]at this;simp only[decide_eq_true_eq];omega
def sd (b:Bool):Str:=if b then "for"else "against"
def own (b:Bool)(f a:P):P:=if b then f else a
def kU (b:Bool)(f a:P):P:=if b then a else f
def cs2 (f a:P):D:=.tuple [pk f,pk a]
def rl (b:Bool)(f a r:P):D:=.tuple [cs2 f a,.str (sd b),pk r]
theorem rJ (f a:P):imm (cs2 f a)=true:=by show imms [pk f,pk a]=Z7;rw[imms,imms,fM,fM];rfl
theorem Up (b:Bool)(f a r:P):imm (rl b f a r)=true:=by show imms [cs2 f a,.str (sd b),pk r]=Z7;rw[imms,imms,imms,rJ,fM];rfl
theorem Uq (b:Bool):rE [.str (sd b)]=.ok (.fr,.none):=by cases b<;>rfl
theorem Lv (b:Bool):lY [.str (sd b)]=.ok (.fr,.str (sd (!b))):=by cases b<;>rfl
theorem Ur (h:Ev Κ Φ t a d):aV Κ Φ (.drop t) a=.ok (.nx a):=by obtain⟨g,h⟩:=h;show(aL Κ Φ t a>>=λ_=>Res.ok (Out.nx a))=_;rw[h];rfl
theorem wF (b:Bool)(f a:P):hX [cs2 f a,.str (sd b)]=.ok (.fr,pk (own b f a)):=by
 refine cU (cZ (Ur (eX (aD (aC rfl) aN) rfl (Uq b))) ?_);cases b with
 |true=>exact bO (cB (JR (k:=Z7) (aP (bZ (aC rfl) cP.e rfl).e rfl) (λ_=>aH (aC rfl) aJ.e rfl (fM f)) (y:=pk f) λz=>by cases z))
 |false=>exact bO (cB (JR (k:=Z6) (aP (bZ (aC rfl) cP.e rfl).e rfl) (x:=pk a) nofun λ_=>aH (aC rfl) aJ.e rfl (fM a)))
theorem Bq (b:Bool)(f a:P):own (!b) f a=kU b f a:=by cases b<;>rfl
theorem Us (b:Bool)(f a r:P):l' [rl b f a r]=.ok (.fr,pk (kU b f a)):=by unfold l';refine cU ?_;unfold vh;rw[<-Bq];exact bO (cB (bW (aD (aH (d:=cs2 f a) (aC rfl) aJ.e rfl (rJ f a)).e (aD (eX (aD (aH (d:=.str (sd b)) (aC rfl) aJ.e rfl rfl).e aN) rfl (Lv b)) aN)) rfl (wF (!b) f a) (fM _)))
def ov (a b:P):List Str:=(a.filter λp=>decide (look b p.1<p.2)).map (·.1)
theorem Ut (a b:P):((a.filter λp=>decide (look b p.1<p.2)).map λp=>ZV p.1)=(ov a b).map .str:=by unfold ov;rw[ei];rfl
theorem Lw (a b:P):(ov a b).isEmpty=wi a b:=by unfold ov wi;rw[jm]
def wG (x:Str)(n:Str):D:=.tuple [.str x,.str n]
theorem FN {b:Bool}{f a r c h:P}(hf:PK f)(B:PK a)(t:PK c)(u:PK h)(hr:r.length<=60)(C:c.length<=60)(l2:h.length<=60):rH [rl b f a r,cs2 c h]=.ok (.fr,.list ((ov r (own b c h)).map (wG "less")++(ov (kU b c h) (kU b f a)).map (wG "more"))):=by
 unfold rH;refine cU ?_;unfold vi;have v:PK (own b c h):=by cases b<;>assumption
 have y:PK (kU b f a):=by cases b<;>assumption
 have l:=vq (a:=r) v;have o:=vq (a:=kU b c h) y;rw[Ut]at l o;refine cZ (oF (aH (d:=.str (sd b)) (aC rfl) aJ.e rfl rfl)) (cZ (kP (AH (aD (aH (d:=pk r) (aC rfl) aJ.e rfl (fM r)).e (aD (eX (aD (aC rfl) (aD (aC rfl) aN)) rfl (wF b c h)) aN)) rfl l) (JK _)) (cZ (kP (AH (aD (eX (aD (aC rfl) (aD (eX (aD (aC rfl) aN) rfl (Lv b)) aN)) rfl (by rw[wF,Bq])) (aD (eX (aD (aC rfl) aN) rfl (Us b f a r)) aN)) rfl o) (JK _)) ?_));have p:∀j i x (ns:List Str),j[i]?=Z9 (Z9 (.fr,.list (ns.map .str)))->aL [] [lZ,l',hX,lY] (.comp 1 [] ["name"] (.nm 0) (.tv (.var i)) .nil (.tup (.cons (.str x) (.cons (.var 0) .nil)))) j=.ok (.fr,.list (ns.map (wG x))):=λj i x ns A=>by have:=z2n (Κ:=[]) (Φ:=[lZ,l',hX,lY]) (ρ:=j) (nt:=1) (js:=[]) (N':=["name"]) (tg:=.nm 0) (it:=.tv (.var i)) (cond:=.nil) (elt:=.tup (.cons (.str x) (.cons (.var 0) .nil))) (m:=ZV) (xs:=ns) (w:=(.al,ns.map .str)) (λ_=>Z7) (wG x) (fK (g:=.al) (x:=.list (ns.map .str)) (by rw[uQ];rw[A];rfl) rfl) rfl (λn=>[Z9 (.al,.str n)]) (λn _=>rfl) (λn _=>SN) (λn _ _=>jz (bG cP (bG (v_var rfl rfl) eB)));rw[fj.mpr λ_ _=>rfl]at this;exact this
 have q:(ov r (own b c h)).length<=60:=by unfold ov;rw[ae];exact bj (cn _ _) hr
 have s:(ov (kU b c h) (kU b f a)).length<=60:=by unfold ov;rw[ae];exact bj (cn _ _) (by cases b<;>assumption)
 refine bO (Ex nofun (Eu (Ev.of (p _ 3 "less" (ov r (own b c h)) rfl)) (Ev.of (p _ 4 "more" (ov (kU b c h) (kU b f a)) rfl)) (add_list (by grind)) (pS.mpr λz k=>?_)));rcases(bu.mp k)with k|k
 .obtain⟨n,_,rfl⟩:=bz.mp k;rfl
 .obtain⟨n,_,rfl⟩:=bz.mp k;rfl
theorem Uu {α:Type}(xs ys:List α):(xs++ys).isEmpty=(xs.isEmpty&&ys.isEmpty):=by cases xs<;>simp
def bi (b:Bool)(f a r f' a':P):Bool:=wi r (own b f' a')&&wi (kU b f' a') (kU b f a)
theorem Uv (x y:Str)(b c:List Str):fZ 39 (b.map (wG x)++c.map (wG y))=true:=pA.mpr λz a=>by
 rcases(bu.mp a)with a|a
 .obtain⟨n,_,rfl⟩:=bz.mp a;rfl
 .obtain⟨n,_,rfl⟩:=bz.mp a;rfl
theorem FO {b:Bool}{f a r c d:P}(hf:PK f)(h:PK a)(e:PK c)(g:PK d)(hr:r.length<=60)(i:c.length<=60)(l2:d.length<=60):gD [rl b f a r,cs2 c d]=.ok (.fr,.bool (bi b f a r c d)):=by unfold gD;refine cU ?_;unfold vj;refine bO (cB (bZ (eX (aD (aC rfl) (aD (aC rfl) aN)) rfl (FN hf h e g hr i l2)) (Ev.of (kO eB)) ?_));rw[FK _ (Uv _ _ _ _)];unfold bi;rw[Uu,jm,jm,Lw,Lw]
theorem Lx (h:0<b)(c:b<2 ^ 200):eC .FloorDiv (.int a) (.int b)=.ok (.int (a/b)):=by show(if _ then _ else _)=_;rw[tw ⟨h,c⟩]
theorem Uw (cs:List Int):iZ "len" [.list (cs.map .int)]=.ok (.int (cs.length:Int)):=by show Res.ok (ZU ((cs.map ZU).length:Int))=_;rw[ae]
theorem rK (ha:Ev Κ Φ a ρ x)(hb:Oo Κ Φ b ρ i)(hc:Oo Κ Φ c ρ j)(h:pU x i j=.ok d):Ev Κ Φ (.sl a b c) ρ d:=by obtain⟨g1,ha⟩:=ha;unfold Oo at hb hc;exact⟨_,by rw[yz];rw[ha,Res.aB,hb,Res.aB,hc,Res.aB];dsimp only;rw[h,Res.aB]⟩
def ag (b:Bool)(f a r:P)(b':Bool)(f' a' r':P):Bool:=(!(b==b'))&&(wi r (own b f' a')&&wi r' (own b' f a))
theorem Ux (b:Bool)(f a r:P)(c:Bool)(e g d:P):ag c e g d b f a r=ag b f a r c e g d:=by unfold ag;rw[Bool.and_comm (wi d _)];cases b<;>cases c<;>rfl
theorem Ly (b a:Bool):(sd b==sd a)=(b==a):=by cases b<;>cases a<;>rfl
theorem vv (hf:PK f)(c:PK a):PK (own b f a):=by cases b<;>assumption
theorem FP (hf:PK f)(q:PK a)(l:PK m)(n:PK o):hY [rl b f a r,rl p m o s]=.ok (.fr,.bool (ag b f a r p m o s)):=by refine cU ?_;have c:∀{Φ:List Fn} {d:Rho} {i:Nat} {g:G} {b:Bool} {f a r:P},d[i]?=Z9 (Z9 (g,rl b f a r))->Vv [] Φ (.ix (.var i) (.int 1)) d (.str (sd b)):=λh=>aH (aC h) aJ.e rfl rfl;have j:∀{Φ:List Fn} {d:Rho} {i:Nat} {g:G} {b:Bool} {f a r:P},d[i]?=Z9 (Z9 (g,rl b f a r))->Vv [] Φ (.ix (.var i) (.int 2)) d (pk r):=λh=>aH (aC h) aJ.e rfl (fM _);have k:∀{Φ:List Fn} {d:Rho} {i:Nat} {g:G} {b:Bool} {f a r:P},d[i]?=Z9 (Z9 (g,rl b f a r))->Vv [] Φ (.ix (.var i) (.int 0)) d (cs2 f a):=λh=>aH (aC h) aJ.e rfl (rJ _ _);refine bO (cB (v_and (bZ (c rfl).e (c rfl).e (by show Res.ok (!(sd b==sd p))=_;rw[Ly])).e λ_=>v_and (bW (aD (j rfl).e (aD (eX (aD (k rfl).e (aD (c rfl).e aN)) rfl (wF b m o)) aN)) rfl (vt (vv l n)) rfl).e λ_=>bW (aD (j rfl).e (aD (eX (aD (k rfl).e (aD (c rfl).e aN)) rfl (wF p f a)) aN)) rfl (vt (vv hf q)) rfl))
def Nx (I:Rho->Prop)(z:Res Out):Prop:=∃cF,z=.ok (.nx cF)/\I cF
theorem tO (a:imm d=Z7):fD (.nm j) (gJ d g,d) ρ=.ok (ρ.set j (Z9 (.al,d))):=by rw[oB a];rfl
theorem q_nm {Q:Res Out->Prop}{c:Type}{m:c->D}{xs:List c}(h:evF Κ Φ it ρ=.ok (g,xs.map m,d))(hm:∀x,imm (m x)=Z7)(I:List c->Rho->Prop)(h0:I [] d)
  (hf:∀pre x a ρ,xs=pre++x::a->I pre ρ->Nx (I (pre++[x])) (aV Κ Φ p (ρ.set j (Z9 (.al,m x))))) (e:∀b,I xs b->Q (aV Κ Φ rest b)):Q (aV Κ Φ (.seq (.bH (.nm j) it p) rest) ρ):=
 zsn h I h0 (λpre x a ρ f i=>by obtain⟨b,k,l⟩:=hf pre x a ρ f i;exact⟨_,b,tO (hm x),k,l⟩) e
theorem FQ {b:Type}(m:b->D){a:List b}{i:Int}(d:b)(h0:0<=i)(c:i<a.length):dQ (.list (a.map m)) (.int i)=.ok (m (a.getD i.toNat d)):=by
 show Res.eG (bT (a.map m) i)=_;rw[AG _ i (m d) h0 (by rw[ae];exact c)]
 congr 1
 have:i.toNat<a.length:=by omega
 rw[aa,aa,ao,ac this];rfl
theorem mQ (a:List D):iZ "len" [.list a]=.ok (.int (a.length:Int)):=rfl
theorem vy {a:Type}{m:a->D}(h:∀x,imm (m x)=Z7)(b:List a):imms (b.map m)=true:=pS.mpr λx c=>by obtain⟨p,_,rfl⟩:=bz.mp c;exact h p
theorem Lz {β:Type}{m:β->D}{Q:Res Out->Prop}(I:List β->Rho->Prop):∀xs pre ρ,(∀FR x post ρ,pre++xs=FR++x::post->I FR ρ->(∃cF,f (m x) ρ=.ok (.nx cF)/\I (FR++[x]) cF)\/∃g d,f (m x) ρ=.ok (.rt g d)/\Q (.ok (.rt g d)))->I pre ρ->(∃cF,dU f (xs.map m) ρ=.ok (.nx cF)/\I (pre++xs) cF)\/∃g d,dU f (xs.map m) ρ=.ok (.rt g d)/\Q (.ok (.rt g d))
 | [],pre,ρ,_,h=>.inl ⟨ρ,rfl,by rw[dw];exact h⟩
 |x::xs,pre,ρ,hf,h=>by
  rcases hf pre x xs ρ rfl h with⟨cF,e,h'⟩|⟨g,d,e,q⟩
  .have e2:pre++x::xs=(pre++[x])++xs:=by simp
   rcases Lz I xs (pre++[x]) cF (λa b c r hh=>hf a b c r (e2.trans hh)) h' with⟨uA,e3,h3⟩|⟨g,d,e3,q⟩
   .exact .inl ⟨uA,by rw[br];show(match f (m x) ρ with|.ok (.nx cF)=>dU f (xs.map m) cF|.ok (.rt g d)=>.ok (.rt g d)|.exc e=>.exc e|.no=>.no)=_;rw[e];exact e3,by rw[e2];exact h3⟩
   .exact .inr ⟨g,d,by rw[br];show(match f (m x) ρ with|.ok (.nx cF)=>dU f (xs.map m) cF|.ok (.rt g d)=>.ok (.rt g d)|.exc e=>.exc e|.no=>.no)=_;rw[e];exact e3,q⟩
  .exact .inr ⟨g,d,by rw[br];show(match f (m x) ρ with|.ok (.nx cF)=>dU f (xs.map m) cF|.ok (.rt g d)=>.ok (.rt g d)|.exc e=>.exc e|.no=>.no)=_;rw[e],q⟩
theorem zfr {Q:Res Out->Prop}{n:Type}{m:n->D}{l:List n}(h:evF Κ Φ it k=.ok (g,l.map m,j))(I:List n->Rho->Prop)(h0:I [] j)
  (hf:∀pre x c k,l=pre++x::c->I pre k->∃a,fD s (gJ (m x) g,m x) k=.ok a/\(Nx (I (pre++[x])) (aV Κ Φ p a)\/∃g d,aV Κ Φ p a=.ok (.rt g d)/\Q (.ok (.rt g d)))) (u:∀b,I l b->Q (aV Κ Φ rest b)):Q (aV Κ Φ (.seq (.bH s it p) rest) k):=by
 rcases Lz (f:=λx j=>fD s (gJ x g,x) j>>=λa=>aV Κ Φ p a) I l [] j (λpre x c k v w=>by
  obtain⟨a,e,hh⟩:=hf pre x c k v w;rcases hh with⟨b,o,r⟩|⟨t,d,o,r⟩
  .exact .inl ⟨b,by rw[e,Res.aB,o],r⟩
  .exact .inr ⟨t,d,by rw[e,Res.aB,o],r⟩) h0 with⟨b,e,i⟩|⟨t,d,e,q⟩
 .rw[cZ (Ez h e) rfl];exact u b i
 .rw[bO (Ez h e)];exact q
theorem LB {a:Type}{b:List a}{x:a×Nat}(h:x∈b.zipIdx):b[x.2]?=Z9 x.1:=i9.mp h
theorem LC {P:Rho->Prop}(I:Nat->Rho->Prop)(hs:∀k b,I k b->(c b=.ok Z6/\P b)\/∃d a,k=d+1/\c b=.ok Z7/\f b=.ok (.nx a)/\I d a):∀k n b,k<n->I k b->∃a,xV c f n b=.ok (.nx a)/\P a
 |k,0,_,h,_=>by omega
 |k,n+1,b,h,l=>by
  rcases hs k b l with⟨g,i⟩|⟨d,a,rfl,g,i,m⟩
  .exact⟨b,by show(c b>>=_)=_;rw[g];rfl,i⟩
  .obtain⟨j,e,p⟩:=LC I hs d n a (by omega) m;refine⟨j,?_,p⟩;show(c b>>=_)=_;rw[g,i];exact e
theorem uN {Q:Res Out->Prop}{P:Rho->Prop}(I:Nat->Rho->Prop)(k:Nat)(hn:k<n)(h0:I k d)(hs:∀k d,I k d->(Tt Κ Φ c d Z6/\P d)\/∃f a,k=f+1/\Tt Κ Φ c d Z7/\aV Κ Φ b d=.ok (.nx a)/\I f a)(g:∀a,P a->Q (aV Κ Φ rest a)):Q (aV Κ Φ (.seq (.wh n c b) rest) d):=by obtain⟨a,e,p⟩:=LC I hs k n d hn h0;exact cQ e (g a p)
theorem pI (c:Int)(h0:0<=k)(f:k<=100):∃m,(0<=m/\m<2147483587)/\kT [.int c,.int k]=.ok (.fr,.int m):=by generalize b:(c%2147483647+7919*k*k+k*k+1)*48271%2147483629=a;refine⟨a*a%2147483587,⟨fk _ dc,g6 _ dc⟩,cU ?_⟩;exact cZ (oF (d:=.int a) (by rw[<-b];exact bK (bK (bK (bK (bK (bK (aC rfl) aJ.e (eM dc) rfl).e (bK (bK aJ.e (aC rfl) (El dc) rfl).e (aC rfl) (yx ⟨by omega,by omega⟩) rfl).e rfl rfl).e (bK (aC rfl) (aC rfl) (El ⟨by omega,by omega⟩) rfl).e rfl rfl).e aJ.e rfl rfl).e aJ.e (yx dc) rfl).e aJ.e (eM dc) rfl)) (bO (cB (bK (bK (aC rfl) (aC rfl) (El ⟨by omega,by omega⟩) rfl).e aJ.e (eM dc) rfl)))
theorem FU (xs:List Int)(hl:xs.length<=63)(h0:0<=k):∃v,zh [.list (xs.map .int),.int k]=.ok (.fr,.int v):=by
 have hc:Tt [] [] (.tv (.cmp .Lt (.var 1) (.bi "len" (.cons (.var 0) .nil)))) [Z9 (.od,.list (xs.map .int)),Z9 (.od,.int k)] (decide (k<xs.length)):=aP (bZ (aC rfl) (bM (aD (aC rfl) aN) (by show Res.ok (ZU ((xs.map ZU).length:Nat))=_;rw[ae]) rfl).e rfl).e rfl;cases hk:decide (k<xs.length)with
 |true=>exact⟨_,cU (uS hc hk (bO (cB (aH (aC rfl) (aC rfl) (Ek h0 (t8 hk)) rfl))))⟩
 |false=>exact⟨0,cU (pE hc hk (bO (cB aJ)))⟩
def cV (c:Int×Bool):D:=.tuple [.int c.1,.bool c.2]
theorem rM (c:Int×Bool):imm (cV c)=true:=rfl
theorem Uy (a:List Int){k:Int}(h0:0<=k)(d:k<a.length)(g:k<=100)(f:Bool):∃c,Fw [.list (a.map .int),.int k,.bool f]=.ok (.fr,cV c):=by
 have b:∀{Φ:List Fn},Vv [] Φ (.ix (.var 0) (.var 1)) [Z9 (.od,.list (a.map .int)),Z9 (.od,.int k),Z9 (.od,.bool f)] (.int (a.getD k.toNat 0)):=aH (aC rfl) (aC rfl) (Ek h0 d) rfl;obtain⟨m,_,hm⟩:=pI (a.getD k.toNat 0) h0 g;cases f with
 |true=>exact⟨(_,Z7),cU (uS (aP (aC rfl) rfl) rfl (bO (cB (jz (bG b (bG lQ eB))))))⟩
 |false=>exact⟨(m,Z6),cU (pE (aP (aC rfl) rfl) rfl (bO (cB (jz (bG (bW (aD b.e (aD (aC rfl) aN)) rfl hm rfl) (bG lQ eB))))))⟩
theorem Uz (h:Vv Κ Φ t ρ (.tuple [x,y]))(b:imm x=Z7)(c:imm y=Z7):aV Κ Φ (.asg (.tp [i,j]) t) ρ=.ok (.nx ((ρ.set i (Z9 (.al,x))).set j (Z9 (.al,y)))):=by
 show(aL Κ Φ t ρ>>=λz=>fD (.tp [i,j]) z ρ>>=λa=>Res.ok (Out.nx a))=_;rw[h.1,Res.aB,show fD (.tp [i,j]) (G.fr,PyData.tuple [x,y]) ρ=.ok ((ρ.set i (Z9 (.al,x))).set j (Z9 (.al,y)))from ?_]
 .rfl
 .have :=AM (i:=i) (j:=j) (g:=.fr) (ρ:=ρ) b c;rw[oB (by show imms [x,y]=Z7;rw[imms,imms,b,c];rfl)]at this;exact this
theorem vz (c:Int×Bool)(h0:0<=k)(a:k<=100):∃m,(0<=m/\m<60)/\iA [cV c,.int k]=.ok (.fr,.int m):=by
 obtain⟨n,f⟩:=c
 suffices h:∃m,(0<=m/\m<60)/\aV [] [kT] Fx [Z9 (.od,cV (n,f)),Z9 (.od,.int k),Z8,Z8,Z8]=.ok (.rt .fr (.int m)) by obtain⟨m,a,i⟩:=h;exact⟨m,a,cU i⟩
 let Q:Res Out->Prop:=λz=>∃m,(0<=m/\m<60)/\z=.ok (.rt .fr (.int m))
 show Q _;refine cQ (Uz (v_var rfl rfl) rfl rfl) ?_;obtain⟨m,_,hm⟩:=pI n h0 a;cases f with
 |false=>refine⟨m%60,⟨fk _ (by decide),g6 _ (by decide)⟩,?_⟩;exact uS (mM (aP (aC rfl) rfl)) rfl (bO (cB (bK (bW (aD (aC rfl) (aD (aC rfl) aN)) rfl hm rfl).e aJ.e (eM (by decide)) rfl)))
 |true=>
  refine JU (mM (aP (aC rfl) rfl)) rfl ?_;refine q_nm (AL (aD (aC rfl) aN) (sW h0 (by omega))) (λ_=>rfl) (λ_ b=>∃z d,b=[Z9 (.od,cV (n,Z7)),Z9 (.od,.int k),Z9 (.al,.int z),Z9 (.al,.bool Z7),d]) ⟨n,Z8,rfl⟩ ?_ ?_
  .rintro pre x g b j ⟨z,d,rfl⟩
   exact⟨_,cZ (oF (bK (aC rfl) aJ.e (Lx (by decide) (by decide)) rfl)) gA,z/60,Z9 (.al,.int x),rfl⟩
  .rintro b ⟨z,d,rfl⟩
   exact⟨z%60,⟨fk _ (by decide),g6 _ (by decide)⟩,bO (cB (bK (aC rfl) aJ.e (eM (by decide)) rfl))⟩
theorem UA (c:Int)(f:Bool):∃g,3<=g/\FC [.int c,.bool f]=.ok (.fr,.int g):=by
 obtain⟨m0,a0,x0⟩:=pI c (k:=50) dc dc;obtain⟨m1,a1,x1⟩:=pI c (k:=51) dc dc;obtain⟨m2,a2,x2⟩:=pI c (k:=52) dc dc;obtain⟨m3,a3,x3⟩:=pI c (k:=53) dc dc;have hT:∀{Φ:List Fn},Vv [] Φ (.bin .Sub (.bin .Pow (.int 10) (.int 30)) (.int 4)) [Z9 (.od,.int c),Z9 (.od,.bool f)] (.int 999999999999999999999999999996):=bK (bK aJ.e aJ.e Sx rfl).e aJ.e rfl rfl;cases f with
 |true=>exact⟨3+c/60%999999999999999999999999999996,by have:=fk (c/60) (show 999999999999999999999999999996≠0 by decide);omega,cU (uS (aP (aC rfl) rfl) rfl (bO (cB (bK aJ.e (bK (bK (aC rfl) aJ.e (Lx dc dc) rfl).e hT.e (eM dc) rfl).e rfl rfl))))⟩
 |false=>exact⟨3+m0*m1*m2*m3%999999999999999999999999999996,by have:=fk (m0*m1*m2*m3) (show 999999999999999999999999999996≠0 by decide);omega,cU (pE (aP (aC rfl) rfl) rfl (bO (cB (bK aJ.e (bK (bK (bK (bK (bW (aD (aC rfl) (aD aJ.e aN)) rfl x0 rfl).e (bW (aD (aC rfl) (aD aJ.e aN)) rfl x1 rfl).e (yx ⟨by omega,by omega⟩) rfl).e (bW (aD (aC rfl) (aD aJ.e aN)) rfl x2 rfl).e (yx ⟨by omega,by omega⟩) rfl).e (bW (aD (aC rfl) (aD aJ.e aN)) rfl x3 rfl).e (yx ⟨by omega,by omega⟩) rfl).e hT.e (eM dc) rfl).e rfl rfl))))⟩
theorem UB (a:0<=k):∃n,tN [.int k,.int g]=.ok (.fr,.int n):=by refine⟨[0,1,2,g,g+1,0].getD (k%6).toNat 0,cU ?_⟩;exact bO (cB (aH (Ev.of (kO (bG aJ (bG aJ (bG aJ (bG (v_var rfl rfl) (bG (bK (aC rfl) aJ.e rfl rfl) (bG aJ eB)))))))) (bK (aC rfl) aJ.e (eM dc) rfl).e (Ek (ns:=[0,1,2,g,g+1,0]) (by omega) (by show k%6<6;omega)) rfl))
theorem UC (a b:Str):(a++b).cps.toList=a.cps.toList++b.cps.toList:=by show(a.cps++b.cps).toList=_;simp
theorem UD {a b:Type}{f:a->b}{l:List a}(h:∀x∈l,∀y∈l,f x=f y->x=y)(nd:l.Nodup):(l.map f).Nodup:=List.pairwise_map.mpr (nd.imp_of_mem λc d hn e=>hn (h _ c _ d e))
def tP:List Str:=["j","q","v","x","z","jz","qz","vz","xz","zj"]
theorem UE:tP.Nodup:=by decide+kernel
theorem UG (c:Int)(hn:n<=10):∃ns:List Str,(ns.length=n/\ns.Nodup)/\Fz [.int c,.int n]=.ok (.fr,.list (ns.map .str)):=by
 suffices h:∃ns:List Str,(ns.length=n/\ns.Nodup)/\aV [] [kT] Fy [Z9 (.od,.int c),Z9 (.od,.int n),Z8,Z8,Z8,Z8]=.ok (.rt .fr (.list (ns.map .str))) by obtain⟨ns,h1,h2⟩:=h;exact⟨ns,h1,cU h2⟩
 let Q:Res Out->Prop:=λr=>∃ns:List Str,(ns.length=n/\ns.Nodup)/\r=.ok (.rt .fr (.list (ns.map .str)))
 show Q _;obtain⟨m1,⟨p1,_⟩,x1⟩:=pI c (k:=29) dc dc;obtain⟨m2,⟨p2,_⟩,x2⟩:=pI c (k:=28) dc dc;have hm:∀i:Nat,i<10->∃m,0<=m/\kT [.int c,.int (30+i)]=.ok (.fr,.int m):=λi hi=>by obtain⟨m,h1,h2⟩:=pI c (k:=30+i) (by omega) (by omega);exact⟨m,h1.1,h2⟩
 refine cQ (oF cP) ?_
 let f:Nat->Int:=λi=>if h:i<10 then(hm i h).choose else 0
 have hf:∀i,i<10->0<=f i/\kT [.int c,.int (30+i)]=.ok (.fr,.int (f i)):=λi hi=>by show 0<=(if h:i<10 then(hm i h).choose else 0)/\kT _=.ok (.fr,.int (if h:i<10 then(hm i h).choose else 0));rw[dif_pos hi];exact(hm i hi).choose_spec
 have ec:=z2n (Κ:=[]) (Φ:=[kT]) (ρ:=[Z9 (.od,.int c),Z9 (.od,.int n),Z9 (.al,.str "abcdefghijklmnopqrstuvwxyz"),Z8,Z8,Z8]) (nt:=1) (js:=[2,0]) (N':=["_law_k","_law_letters","_law_cell_here"]) (tg:=.nm 0) (it:=.eI (.cons (.bin .Mod (.call 0 "_law_mix" (.cons (.var 0) (.cons (.int 29) .nil))) (.int 10)) .nil)) (cond:=.nil) (elt:=.ix (.var 1) (.bin .Mod (.call 0 "_law_mix" (.cons (.var 2) (.cons (.bin .Add (.int 30) (.var 0)) .nil))) (.int 26))) (λ_=>Z7) (λi=>ZV (chr "abcdefghijklmnopqrstuvwxyz" (f i%26)))
  (sX (aD (bK (bW (aD (aC rfl) (aD aJ.e aN)) rfl x1 rfl).e aJ.e (eM dc) rfl).e aN) (sW (by omega) (by omega))) rfl (λi=>[Z9 (.al,.int i),Z9 (.al,.str "abcdefghijklmnopqrstuvwxyz"),Z9 (.od,.int c)]) (λ_ _=>rfl) (λ_ _=>rfl) λi hi _=>by
   have hi:i<10:=by have:=dq.mp hi;omega
   obtain⟨g0,g1⟩:=hf i hi;exact aH (aC rfl) (bK (bW (aD (aC rfl) (aD (bK aJ.e (aC rfl) rfl rfl).e aN)) rfl g1 rfl).e aJ.e (eM dc) rfl).e (Cg (by omega) (by show f i%26<26;omega) dc) rfl
 let ss:List Str:=(bw (m1%10).toNat).map λi=>chr "abcdefghijklmnopqrstuvwxyz" (f i%26)
 have UH:(((bw (m1%10).toNat).filter λ_=>Z7).map λi=>ZV (chr "abcdefghijklmnopqrstuvwxyz" (f i%26)))=ss.map .str:=by rw[fj.mpr λ_ _=>rfl];rw[ei];rfl
 rw[UH]at ec;have h1:∀s∈ss,s.length=1:=λs hs=>by obtain⟨i,_,rfl⟩:=bz.mp hs;rfl
 have EV:ss.length=(m1%10).toNat:=by rw[ae,cx]
 have hB:=Sy ss h1;generalize hb:sF "" ss=B at hB;refine cQ (oF (d:=.str B) (hb▸qO cP.e (aD (Ev.of ec) aN) (Sz h1 (by omega)) rfl)) ?_;have UI:0<=m2%(B.length+1):=fk _ (by omega);refine cQ (oF (d:=.int (m2%(B.length+1))) (bK (bW (aD (aC rfl) (aD aJ.e aN)) rfl x2 rfl).e (bK (bM (aD (aC rfl) aN) (by show(if B.length<=aT then Res.ok (ZU B.length)else Res.no)=_;rw[tw (by unfold aT;omega)]) rfl).e aJ.e rfl rfl).e (eM (by omega)) rfl)) ?_;generalize m2%(B.length+1)=a at UI;refine cQ (kP (kO (bG cP (bG cP (bG cP (bG cP (bG cP (bG cP (bG cP (bG cP (bG cP (bG cP eB))))))))))) rfl) ?_;have UJ:∀k,(tP.getD k ⟨#[]⟩).length<=2:=λk=>by rcases k with _|_|_|_|_|_|_|_|_|_|k<;>first|decide|exact c9 _
 let w:Nat->Str:=λi=>mK B Z8 (Z9 a)++tP.getD ((i+c)%10).toNat ⟨#[]⟩++mK B (Z9 a) Z8
 have er:=z2n (Κ:=[]) (Φ:=[kT]) (ρ:=[Z9 (.od,.int c),Z9 (.od,.int n),Z9 (.al,.str "abcdefghijklmnopqrstuvwxyz"),Z9 (.al,.str B),Z9 (.al,.int a),Z9 (.fr,.list (tP.map .str))]) (nt:=1) (js:=[3,5,4,0]) (N':=["_law_k","_law_base","_law_signs","_law_at","_law_cell_here"]) (tg:=.nm 0) (it:=.eI (.cons (.var 1) .nil)) (cond:=.nil) (elt:=.bin .Add (.bin .Add (.sl (.var 1) .nil (.tv (.var 3))) (.ix (.var 2) (.bin .Mod (.bin .Add (.var 0) (.var 4)) (.int 10)))) (.sl (.var 1) (.tv (.var 3)) .nil)) (λ_=>Z7) (λi=>ZV (w i)) (sX (aD (aC rfl) aN) (sW (by omega) (by omega))) rfl (λi=>[Z9 (.al,.int i),Z9 (.al,.str B),Z9 (.al,.list (tP.map .str)),Z9 (.al,.int a),Z9 (.od,.int c)]) (λ_ _=>rfl) (λ_ _=>rfl) λi hi _=>by have l1:=JJ B Z8 (Z9 a);have l2:=JJ B (Z9 a) Z8;have l3:=UJ ((i+c)%10).toNat;have l4:=Sw (mK B Z8 (Z9 a)) (tP.getD ((i+c)%10).toNat ⟨#[]⟩);exact bK (bK (yC (aC rfl) uG (uR (aC rfl)) (zW (by omega)) rfl).e (aH (aC rfl) (bK (bK (aC rfl) (aC rfl) rfl rfl).e aJ.e (eM dc) rfl).e (qN (by omega) (by show(i+c)%10<10;omega)) rfl).e (add_str (by omega)) rfl).e (yC (aC rfl) (uR (aC rfl)) uG (zW (by omega)) rfl).e (add_str (by omega)) rfl
 refine⟨(bw n).map w,⟨by rw[ae,cx],UD (λx hx y hy e=>?_) List.nodup_range⟩,bO (Ex (λ_ z=>nomatch z) (er.trans ?_))⟩
 .have hx:=dq.mp hx;have hy:=dq.mp hy;have e1:=congrArg (λs:Str=>s.cps.toList) e;simp only[w,UC,kb]at e1;have e3:=R5 (List.append_cancel_right (List.append_cancel_left e1));have i1:((x+c)%10).toNat<tP.length:=by show _<10;omega
  have i2:((y+c)%10).toNat<tP.length:=by show _<10;omega
  rw[aa,aa,ac i1,ac i2]at e3;have:=(λ{l i j} hi hj nd h=>(List.getElem_inj nd).mp h) i1 i2 UE e3;omega
 .rw[fj.mpr λ_ _=>rfl,ei];rfl
def mr (p:Bool×P×P×P):D:=rl p.1 p.2.1 p.2.2.1 p.2.2.2
theorem mR (p:Bool×P×P×P):imm (mr p)=true:=Up _ _ _ _
def eY (p q:Bool×P×P×P):Bool:=ag p.1 p.2.1 p.2.2.1 p.2.2.2 q.1 q.2.1 q.2.2.1 q.2.2.2
structure GR (p:Bool×P×P×P):Prop where
 f:PK p.2.1
 a:PK p.2.2.1
 r:PK p.2.2.2
 w:wi p.2.2.2 (own p.1 p.2.1 p.2.2.1)=Z7
 l:p.2.1.length<=10/\p.2.2.1.length<=10/\p.2.2.2.length<=10
theorem vC (b:GR p)(c:GR q):hY [mr p,mr q]=.ok (.fr,.bool (eY p q)):=FP b.f b.a c.f c.a
theorem UK (ps:List (Bool×P×P×P)):imms (ps.map mr)=true:=vy mR ps
theorem LD {b:Type}(f:b->D):∀(a:List b) k,z2g k (a.map f)=(a.zipIdx k).map λx=>.tuple [.int x.2,f x.1]
 | [],_=>rfl
 |x::a,k=>by rw[br,z2g,List.zipIdx_cons,br,LD f a (k+1)]
theorem LF {ps:List (Bool×P×P×P)}(h:a[i]?=Z9 (Z9 (.od,.list (ps.map mr))))(b:ps.length<=1000):evF Κ Φ (.enum (.var i)) a=.ok (.al,ps.zipIdx.map λx=>.tuple [.int x.2,mr x.1],a):=by rw[SR (by rw[uQ];rw[h];rfl) rfl (SU (UK ps) (by grind)),LD]
def zk:Option Nat->D
 |none=>.none
 |some k=>.int k
theorem LG {b:Type}{G:b->Bool}{pre a:List b}{x:b}(h:∀y∈pre,G y=Z6)(c:G x=Z7):(pre++x::a).findIdx? G=Z9 pre.length:=by grind
theorem UL {ps:List (Bool×P×P×P)}(c:∀p∈ps,GR p)(o:GR q)(r:ps.length<=1000):Bm [.list (ps.map mr),mr q]=.ok (.fr,zk (ps.findIdx? λp=>eY p q)):=by
 refine cU ?_
 let Q:Res Out->Prop:=λz=>z=.ok (.rt .fr (zk (ps.findIdx? λp=>eY p q)))
 show Q _;refine zfr (LF rfl r) (λpre d=>(∀y∈pre,eY y.1 q=Z6)/\∃f g,d=[Z9 (.od,.list (ps.map mr)),Z9 (.od,mr q),f,g]) ⟨nofun,Z8,Z8,rfl⟩ ?_ ?_
 .rintro pre x a d h ⟨hn,f,g,rfl⟩
  have i:=LB (h▸bf _ bg);have hs:ps=pre.map (·.1)++x.1::a.map (·.1):=by have:=congrArg (lj (·.1)) h;rw[pw,cj]at this;exact this
  have j:x.2=pre.length:=by
   have:=congrArg (λl:List ((Bool×P×P×P)×Nat)=>l[pre.length]?) h;simp only[b8 (ak _),fz,nh,pd]at this;cases hh:ps[pre.length]? with
   |none=>rw[hh]at this;cases this
   |some y=>rw[hh]at this;cases this;simp
  refine⟨_,AM rfl (mR x.1),?_⟩;have n:Tt [] [hY] (.tv (.call 0 "against" (.cons (.var 3) (.cons (.var 1) .nil)))) [Z9 (.od,.list (ps.map mr)),Z9 (.od,mr q),Z9 (.al,.int x.2),Z9 (.al,mr x.1)] (eY x.1 q):=aP (bW (aD (aC rfl) (aD (aC rfl) aN)) rfl (vC (c _ (aq i)) o) rfl).e rfl;cases b:eY x.1 q with
  |true=>
   refine .inr ⟨.fr,.int x.2,bO (jU n (λ_=>bO (cB (v_var rfl rfl))) λz=>by rw[b]at z;cases z),?_⟩;show _=_;have e:(ps.findIdx? λp=>eY p q)=Z9 x.2:=by rw[hs,LG (G:=λp=>eY p q) (λy m=>?_) b,ae,j];obtain⟨z,i,rfl⟩:=bz.mp m;exact hn z i
   rw[e];rfl
  |false=>exact .inl ⟨_,cZ (jU n (λz=>by rw[b]at z;cases z) λ_=>gA) gA,(λy m=>by
   rcases bu.mp m with z|z
   .exact hn y z
   .rw[az.mp z];exact b),_,_,rfl⟩
 .rintro d ⟨hn,f,g,rfl⟩
  have e:(ps.findIdx? λp=>eY p q)=none:=ma.mpr λp c=>by obtain⟨k,s⟩:=ce.mp c;exact hn (p,k) (i9.mpr s)
  show aV _ _ _ _=_;rw[e];exact bO (cB yA)
theorem UM (h:GR p):rG [cs2 p.2.1 p.2.2.1,.str (sd p.1),pk p.2.2.2]=.ok (.fr,mr p):=by
 refine cU ?_;have hv:Vv [] [oO,hX] (.call 0 "within" (.cons (.var 2) (.cons (.call 1 "side_of" (.cons (.var 0) (.cons (.var 1) .nil))) .nil))) [Z9 (.od,cs2 p.2.1 p.2.2.1),Z9 (.od,.str (sd p.1)),Z9 (.od,pk p.2.2.2)] (.bool Z7):=by have:=vt (a:=p.2.2.2) (vv (b:=p.1) h.f h.a);rw[h.w]at this;exact bW (aD (aC rfl) (aD (eX (aD (aC rfl) (aD (aC rfl) aN)) rfl (wF p.1 _ _)) aN)) rfl this rfl
 exact pE (mM (aP hv.e rfl)) rfl (bO (cB (jz (bG (v_var rfl (rJ _ _)) (bG (v_var rfl rfl) (bG (v_var rfl (fM _)) eB))))))
theorem UN (a:f.length<=2):zg [.list f,.none]=.ok (.fr,.bool (f.length==1)):=by
 refine cU (uS (aP (yB (aC rfl)).e rfl) rfl (bO (cB (bZ (bM (aD (aC rfl) aN) rfl rfl).e aJ.e ?_))));show Res.ok (gI (.int _) (.int _))=_;rw[Em]
 congr 1
 rw[ju,decide_eq_true_iff,beq_iff_eq];omega
theorem zl (l:P):imms (l.map pr)=true:=vy wc l
theorem UO {l:P}(a:l.length<4):aggD "sorted" Z7 (l.map pr)=.ok (.list ((sV l).map pr)):=by show(if(Z7&&(l.map pr).all isP2&&decide ((l.map pr).length<4))=Z7 then Res.ok (PyData.list (ur (l.map pr)))else .no)=_;rw[R',Sa,ae,ua a];rfl
theorem FV {ns:List Str}(nd:ns.Nodup)(r:ns.length<=3)(c:Int×Bool)(A:0<=k)(B:k<=80):∃l,(PK l/\l.length<=10)/\wB [.list (ns.map .str),cV c,.int k,.int g]=.ok (.fr,pk l):=by
 have hd:∀i:Nat,i<10->∃n,∃m,iA [cV c,.int (k+i)]=.ok (.fr,.int m)/\tN [.int m,.int g]=.ok (.fr,.int n):=λi a=>by obtain⟨m,⟨s,_⟩,hm⟩:=vz c (k:=k+i) (by omega) (by omega);obtain⟨n,hn⟩:=UB s;exact⟨n,m,hm,hn⟩
 let dg:Nat->Int:=λi=>if h:i<10 then(hd i h).choose else 0
 have t:∀i:Nat,i<10->∃m,iA [cV c,.int (k+i)]=.ok (.fr,.int m)/\tN [.int m,.int g]=.ok (.fr,.int (dg i)):=λi a=>by show ∃m,_/\tN _=.ok (.fr,.int (if h:i<10 then(hd i h).choose else 0));rw[dif_pos a];exact(hd i a).choose_spec
 let b:P:=(bw ns.length).map λi=>(ns.getD i ⟨#[]⟩,dg i)
 have j:ks b=ns:=by
  show(lj _ (lj _ _))=_;rw[ei];apply gg;intro i;rw[ao];by_cases a:i<ns.length
  .rw[ee a];show Z9 (ns.getD i ⟨#[]⟩)=_;rw[aa,ac a];rfl
  .rw[ej (by grind),ej (by omega)];rfl
 let d:P:=b.filter λp=>decide (0<p.2)
 have o:(ks d).Nodup:=by have:(ks d).Sublist ns:=j▸List.filter_sublist.map _;exact this.nodup nd
 have f:d.length<4:=Nat.lt_succ_of_le <|by refine bj (cn _ _) ?_;rw[ae,cx];exact r
 refine⟨sV d,⟨⟨Se o f,λp u=>?_⟩,by rw[(Ea f).length_eq];omega⟩,cU ?_⟩
 .have :=(Ea f).mem_iff.mp u;simpa using(dn.mp this).2
 have q:=z2n (Κ:=[]) (Φ:=[tN,iA]) (ρ:=[Z9 (.od,.list (ns.map .str)),Z9 (.od,cV c),Z9 (.od,.int k),Z9 (.od,.int g),Z8]) (nt:=1) (js:=[0,3,1,2]) (N':=["_law_k","_law_names_here","_law_great_here","_law_cell_here","_law_at"]) (tg:=.nm 0) (it:=.eI (.cons (.bi "len" (.cons (.var 0) .nil)) .nil)) (cond:=.nil) (elt:=.tup (.cons (.ix (.var 1) (.var 0)) (.cons (.call 0 "_law_degree" (.cons (.call 1 "_law_pick" (.cons (.var 3) (.cons (.bin .Add (.var 4) (.var 0)) .nil))) (.cons (.var 2) .nil))) .nil))) (xs:=bw ns.length) (λ_=>Z7) (λi=>pr (ns.getD i ⟨#[]⟩,dg i)) (sX (aD (bM (aD (aC rfl) aN) (by rw[mQ,ae]) rfl).e aN) (sW (by omega) (by omega))) rfl (λi=>[Z9 (.al,.int i),Z9 (.od,.list (ns.map .str)),Z9 (.od,.int g),Z9 (.od,cV c),Z9 (.od,.int k)]) (λ_ _=>rfl) (λ_ _=>rfl) λi a _=>by have a:=dq.mp a;obtain⟨m,v,g1⟩:=t i (by omega);exact jz (bG (aH (aC rfl) (aC rfl) (qN (by omega) (by omega)) rfl) (bG (bW (aD (bW (aD (aC rfl) (aD (bK (aC rfl) (aC rfl) rfl rfl).e aN)) rfl v rfl).e (aD (aC rfl) aN)) rfl g1 rfl) eB))
 have x:(((bw ns.length).filter λ_=>Z7).map λi=>pr (ns.getD i ⟨#[]⟩,dg i))=b.map pr:=by rw[fj.mpr λ_ _=>rfl];rw[ei];rfl
 rw[x]at q;refine cZ (kP q (zl b)) ?_;have y:aL [] [tN,iA] (.var 4) [Z9 (.od,.list (ns.map .str)),Z9 (.od,cV c),Z9 (.od,.int k),Z9 (.od,.int g),Z9 (.fr,.list (b.map pr))]=.ok (.al,.list (b.map pr)):=rfl;have z:=z2n (ρ:=[Z9 (.od,.list (ns.map .str)),Z9 (.od,cV c),Z9 (.od,.int k),Z9 (.od,.int g),Z9 (.fr,.list (b.map pr))]) (nt:=1) (js:=[]) (N':=["_law_pair"]) (tg:=.nm 0) (cond:=.tv (.cmp .Gt (.ix (.var 0) (.int 1)) (.int 0))) (elt:=.var 0) (λp=>decide (0<p.2)) pr (fK y rfl) rfl (λp=>[Z9 (.al,pr p)]) (λp _=>tO (wc p)) (λp _=>aP (bZ (aH (aC rfl) aJ.e rfl rfl).e aJ.e rfl).e rfl) λp _ _=>v_var rfl (wc p);exact bO (cB (JS (w:=(Z7,(sV d).map pr)) (Ev.of (yD (Ev.of z) rfl (UO f) (zl d))) rfl rfl (fM _)))
theorem UP (d:PK a)(g:PK b):∃r,(PK r/\wi r a=Z7/\r.length<=a.length)/\zi [pk a,pk b]=.ok (.fr,pk r):=by
 let r0:P:=a.map λp=>(p.1,min p.2 (look b p.1))
 let r:P:=r0.filter λp=>decide (0<p.2)
 have h:ks r0=ks a:=by show lj _ (lj _ _)=lj _ _;rw[ei];rfl
 refine⟨r,⟨⟨(List.filter_sublist.map _).nodup (h▸d.sd:(ks r0).Nodup),λp c=>by simpa using(dn.mp c).2⟩,?_,bj (cn _ _) (by show(lj _ _).length<=_;rw[ae];exact ak _)⟩,cU ?_⟩
 .unfold wi;rw[ku,kl];intro p c z;obtain⟨q,i,rfl⟩:=bz.mp (dn.mp c).1;have:=t8 z;rw[show look a q.1=q.2 from d.iL i]at this;omega
 refine cZ (AJ (yD (aC rfl) rfl (Ej Z6 g.nd) (zl b)) (D' b)) ?_;have j:aL [] [] (.var 0) [Z9 (.od,pk a),Z9 (.od,pk b),Z9 (.fr,.dict (en b)),Z8]=.ok (.fr,pk a):=by show Res.ok (if imm (pk a)=Z7 then G.fr else _,pk a)=_;rw[fM];rfl
 have f:=z2n (ρ:=[Z9 (.od,pk a),Z9 (.od,pk b),Z9 (.fr,.dict (en b)),Z8]) (nt:=1) (js:=[2]) (N':=["_law_pair","_law_some"]) (tg:=.nm 0) (cond:=.nil) (elt:=.tup (.cons (.ix (.var 0) (.int 0)) (.cons (.bi "min" (.cons (.ix (.var 0) (.int 1)) (.cons (.mt "get" (.var 1) (.cons (.ix (.var 0) (.int 0)) (.cons (.int 0) .nil))) .nil))) .nil))) (λ_=>Z7) (λp=>pr (p.1,min p.2 (look b p.1))) (fK j rfl) rfl (λp=>[Z9 (.al,pr p),Z9 (.al,.dict (en b))]) (λp _=>tO (wc p)) (λ_ _=>rfl) λp _ _=>jz (bG (aH (aC rfl) aJ.e rfl rfl) (bG (bM (aD (aH (aC rfl) aJ.e rfl rfl).e (aD (qO (aC rfl) (aD (aH (aC rfl) aJ.e rfl rfl).e (aD aJ.e aN)) (Ei b p.1) rfl).e aN)) (Su _ _) rfl) eB));have k:((a.filter λ_=>Z7).map λp=>pr (p.1,min p.2 (look b p.1)))=r0.map pr:=by rw[fj.mpr λ_ _=>rfl];rw[ei];rfl
 rw[k]at f;refine cZ (kP f (zl r0)) ?_;have l:aL [] [] (.var 3) [Z9 (.od,pk a),Z9 (.od,pk b),Z9 (.fr,.dict (en b)),Z9 (.fr,.list (r0.map pr))]=.ok (.al,.list (r0.map pr)):=rfl;have m:=z2n (ρ:=[Z9 (.od,pk a),Z9 (.od,pk b),Z9 (.fr,.dict (en b)),Z9 (.fr,.list (r0.map pr))]) (nt:=1) (js:=[]) (N':=["_law_pair"]) (tg:=.nm 0) (cond:=.tv (.cmp .Gt (.ix (.var 0) (.int 1)) (.int 0))) (elt:=.var 0) (λp=>decide (0<p.2)) pr (fK l rfl) rfl (λp=>[Z9 (.al,pr p)]) (λp _=>tO (wc p)) (λp _=>aP (bZ (aH (aC rfl) aJ.e rfl rfl).e aJ.e rfl).e rfl) λp _ _=>v_var rfl (wc p);exact bO (cB (JS (Ev.of m) rfl rfl (fM _)))
theorem FW {α:Type}(xs:List α)(i j:Option Int):(cut xs i j).Sublist xs:=(mh _ _).trans (List.drop_sublist _ _)
theorem FY {b:Type}(a:List b)(i:Option Int)(h0:0<=n)(h:n<=3):(cut a i (Z9 n)).length<=3:=by
 unfold cut;have:dO a.length a.length (Z9 n)<=3:=by show(if n<0 then _ else min n.toNat _)<=3;rw[tx (by omega)];omega
 rw[eh];omega
theorem FZ (i j:Option Int):pU (.list (ns.map .str)) i j=.ok (.list ((cut ns i j).map .str)):=by show Res.ok (PyData.list (cut (ns.map ZV) i j))=_;unfold cut;rw[ae,List.map_take,List.map_drop]
theorem LH {ns:List Str}(nd:ns.Nodup)(c:Int×Bool)(b:0<=k)(j:k<=60):∃f a,((PK f/\f.length<=10)/\(PK a/\a.length<=10))/\wC [.list (ns.map .str),cV c,.int k,.int g]=.ok (.fr,cs2 f a):=by obtain⟨f,hf,d⟩:=FV ((FW ns Z8 (Z9 2)).nodup nd) (FY ns _ (by decide) (by decide)) c b (show k<=80 by omega);obtain⟨a,h,i⟩:=FV ((FW ns (Z9 1) (Z9 3)).nodup nd) (FY ns _ (by decide) (by decide)) c (show 0<=k+2 by omega) (show k+2<=80 by omega);refine⟨f,a,⟨hf,h⟩,cU ?_⟩;exact bO (cB (jz (bG (bW (aD (rK (aC rfl) uG (uR aJ.e) (FZ _ _)) (aD (aC rfl) (aD (aC rfl) (aD (aC rfl) aN)))) rfl d (fM _)) (bG (bW (aD (rK (aC rfl) (uR aJ.e) (uR aJ.e) (FZ _ _)) (aD (aC rfl) (aD (bK (aC rfl) aJ.e rfl rfl).e (aD (aC rfl) aN)))) rfl i (fM _)) eB))))
theorem zm (b:Bool)(f a:P):pG [cs2 f a,.str (sd b)]=.ok (.fr,pk (own b f a)):=by
 refine cU ?_;cases b with
 |true=>exact bO (cB (aH (aC rfl) (bM (aD (bZ (aC rfl) cP.e rfl).e aN) rfl rfl).e rfl (fM f)))
 |false=>exact bO (cB (aH (aC rfl) (bM (aD (bZ (aC rfl) cP.e rfl).e aN) rfl rfl).e rfl (fM a)))
theorem UQ (h:Ev [] Φ t a (.int (w%2))):Vv [] Φ (.ix (.lst (.cons (.str "for") (.cons (.str "against") .nil))) t) a (.str (sd (decide (w%2=0)))):=by
 refine aH (Ev.of (kO (bG cP (bG cP eB)))) h ?_ rfl;rcases(show w%2=0\/w%2=1 by omega)with e|e
 .rw[e];rfl
 .rw[e];rfl
theorem UR (ha:PK a):wi a a=true:=(Uo ha ha).mpr λ_=>Int.le_refl _
theorem F6 {ns:List Str}(nd:ns.Nodup)(I:ns.length<=10)(c:Int×Bool)(g:Int):∃p,GR p/\FH [.list (ns.map .str),cV c,.int g]=.ok (.fr,mr p):=by
 obtain⟨f,a,⟨⟨hf,lf⟩,t,la⟩,A⟩:=LH nd c (k:=4) (by decide) (by decide);obtain⟨w,_,B⟩:=vz c (k:=8) (by decide) (by decide);obtain⟨z,_,C⟩:=vz c (k:=9) (by decide) (by decide);obtain⟨l,⟨j,_⟩,el⟩:=FV ((FW ns Z8 (Z9 3)).nodup nd) (FY ns _ (by decide) (by decide)) c (k:=10) (by decide) (by decide);generalize D:decide (w%2=0)=b;have m:PK (own b f a):=vv hf t;obtain⟨r,⟨hr,E,F⟩,G⟩:=UP m j;have u:(own b f a).length<=10:=by cases b<;>assumption
 suffices h:∃p,GR p/\aV [] [iA,zi,wB,pG,wC] FG [Z9 (.od,.list (ns.map .str)),Z9 (.od,cV c),Z9 (.od,.int g),Z8,Z8,Z8]=.ok (.rt .fr (mr p)) by obtain⟨p,n,o⟩:=h;exact⟨p,n,cU o⟩
 let Q:Res Out->Prop:=λy=>∃p,GR p/\y=.ok (.rt .fr (mr p))
 show Q _;refine cQ (oF (bW (aD (aC rfl) (aD (aC rfl) (aD aJ.e (aD (aC rfl) aN)))) rfl A (rJ _ _))) (cQ (oF (d:=.str (sd b)) (by rw[<-D];exact UQ (bK (bW (aD (aC rfl) (aD aJ.e aN)) rfl B rfl).e aJ.e (eM (by decide)) rfl).e)) (cQ (oF (bW (aD (aC rfl) (aD (aC rfl) aN)) rfl (zm b f a) (fM _))) ?_));have i:∀s Φ,PK s->wi s (own b f a)=Z7->s.length<=10->∃p,GR p/\aV [] Φ (.seq (.ret (.tup (.cons (.var 3) (.cons (.var 4) (.cons (.var 5) .nil))))) .nil) [Z9 (.od,.list (ns.map .str)),Z9 (.od,cV c),Z9 (.od,.int g),Z9 (.al,cs2 f a),Z9 (.al,.str (sd b)),Z9 (.al,pk s)]=.ok (.rt .fr (mr p)):=λs Φ n o H=>⟨(b,f,a,s),⟨hf,t,n,o,lf,la,H⟩,bO (cB (jz (bG (v_var rfl (rJ _ _)) (bG (v_var rfl rfl) (bG (v_var rfl (fM _)) eB)))))⟩;have v:Tt [] [iA,zi,wB,pG,wC] (.tv (.cmp .Gt (.bin .Mod (.call 0 "_law_pick" (.cons (.var 1) (.cons (.int 9) .nil))) (.int 3)) (.int 0))) [Z9 (.od,.list (ns.map .str)),Z9 (.od,cV c),Z9 (.od,.int g),Z9 (.al,cs2 f a),Z9 (.al,.str (sd b)),Z9 (.al,pk (own b f a))] (decide (0<z%3)):=aP (bZ (bK (bW (aD (aC rfl) (aD aJ.e aN)) rfl C rfl).e aJ.e (eM (by decide)) rfl).e aJ.e rfl).e rfl;cases x:decide (0<z%3)with
 |false=>exact JU v x (i _ _ m (UR m) u)
 |true=>exact cQ (jU v (λ_=>cZ (oF (bW (aD (aC rfl) (aD (eX (aD (rK (aC rfl) uG (uR aJ.e) (FZ _ _)) (aD (aC rfl) (aD aJ.e (aD (aC rfl) aN)))) rfl el) aN)) rfl G (fM _))) gA) λq=>by rw[x]at q;cases q) (i _ _ hr E (bj F u))
theorem US (rs:List Cw)(r:Cw):dQ (.list ((rs++[r]).map cwD)) (.int (-1))=.ok (cwD r):=by show Res.eG (bT _ _)=_;unfold bT gE;rw[tx dc,ae,aw,dr,tw (by omega)];show Res.eG (((rs++[r]).map cwD)[((-1:Int)+((rs.length+1:Nat):Int)).toNat]?)=_;rw[show((-1:Int)+((rs.length+1:Nat):Int)).toNat=rs.length by omega,ao,b8 (ak _),fz];rfl
theorem UT {ns:List Str}(hn:n<=7)(d:1<=n)(R:n<=ns.length)(I:ns.length<=10)(c:Int×Bool)(J:Bn=aQ [] [iA] 5 (.seq (.asg (.nm 2) (.lst (.cons (.tup (.cons (.ix (.var 1) (.int 0)) (.cons .aO .nil))) .nil)))
 (.seq (.bH (.nm 3) (.eI (.cons (.int 1) (.cons (.int n) .nil)))
 (.seq (.asg (.nm 4) (.bin .Add (.bin .Add (.lst (.cons .aO .nil)) (.comp 1 [] ["_law_row"] (.nm 0) (.tv (.var 2)) .nil (.ix (.var 0) (.int 0)))) (.lst (.cons (.ix (.ix (.var 2) (.neg (.int 1))) (.int 0)) .nil))))
 (.seq (.mut "append" 2 (.cons (.tup (.cons (.ix (.var 1) (.var 3)) (.cons (.ix (.var 4) (.bin .Mod (.call 0 "_law_pick" (.cons (.var 0) (.cons (.var 3) .nil))) (.bi "len" (.cons (.var 4) .nil)))) .nil))) .nil))
 .nil)))
 (.seq (.ret (.var 2))
 .nil)))):∃rs,(GoodC rs/\rs.map (·.1)=ns.take n)/\Bn [cV c,.list (ns.map .str)]=.ok (.fr,.list (rs.map cwD)):=by
 suffices h:∃rs,(GoodC rs/\rs.map (·.1)=ns.take n)/\aV [] [iA] (.seq (.asg (.nm 2) (.lst (.cons (.tup (.cons (.ix (.var 1) (.int 0)) (.cons .aO .nil))) .nil)))
 (.seq (.bH (.nm 3) (.eI (.cons (.int 1) (.cons (.int n) .nil)))
 (.seq (.asg (.nm 4) (.bin .Add (.bin .Add (.lst (.cons .aO .nil)) (.comp 1 [] ["_law_row"] (.nm 0) (.tv (.var 2)) .nil (.ix (.var 0) (.int 0)))) (.lst (.cons (.ix (.ix (.var 2) (.neg (.int 1))) (.int 0)) .nil))))
 (.seq (.mut "append" 2 (.cons (.tup (.cons (.ix (.var 1) (.var 3)) (.cons (.ix (.var 4) (.bin .Mod (.call 0 "_law_pick" (.cons (.var 0) (.cons (.var 3) .nil))) (.bi "len" (.cons (.var 4) .nil)))) .nil))) .nil))
 .nil)))
 (.seq (.ret (.var 2))
 .nil))) [Z9 (.od,cV c),Z9 (.od,.list (ns.map .str)),Z8,Z8,Z8]=.ok (.rt .fr (.list (rs.map cwD))) by obtain⟨rs,d,u⟩:=h;exact⟨rs,d,by rw[J];exact cU u⟩
 let Q:Res Out->Prop:=λy=>∃rs,(GoodC rs/\rs.map (·.1)=ns.take n)/\y=.ok (.rt .fr (.list (rs.map cwD)))
 show Q _;have D:∀{k:Nat},k<ns.length->ns.take (k+1)=ns.take k++[ns.getD k ⟨#[]⟩]:=λ{k} K=>by rw[kg,aa,ac K];rfl
 refine cQ (kP (xs:=[cwD (ns.getD 0 ⟨#[]⟩,Z8)]) (kO (bG (jz (bG (aH (aC rfl) aJ.e (qN dc (by omega)) rfl) (bG yA eB))) eB)) rfl) (q_nm (xs:=bw ((n:Int)-1).toNat) (AL (aD aJ.e (aD aJ.e aN)) (by show(if _ then _ else _)=_;rw[tw (by unfold aT;omega)])) (λ_=>rfl) (λpre t=>pre=bw pre.length/\∃rs r v f,t=[Z9 (.od,cV c),Z9 (.od,.list (ns.map .str)),Z9 (.fr,.list ((rs++[r]).map cwD)),v,f]/\GoodC (rs++[r])/\(rs++[r]).map (·.1)=ns.take (pre.length+1)) ⟨rfl,[],(ns.getD 0 ⟨#[]⟩,Z8),Z8,Z8,rfl,λk s a e=>?_,?_⟩ ?_ ?_)
 .rcases k with _|k<;>cases e
 .show[ns.getD 0 ⟨#[]⟩]=ns.take 1;rw[D (by omega)];rfl
 .rintro pre x E t F ⟨w,rs,r,v,f,rfl,A,hm⟩
  have d:=congrArg jh F;rw[cx,aw,bh]at d;have g:x=pre.length:=by have:=congrArg (λl:List Nat=>l[pre.length]?) F;simp at this;rw[ee (by omega)]at this;exact(tz this)▸rfl
  have L:rs.length=pre.length:=by have:=congrArg jh hm;rw[ae,aw,dr,eh]at this;omega
  let hs:List (Option Str):=Z8::((rs++[r]).map λq=>Z9 q.1)++[Z9 r.1]
  have M:hs.length=rs.length+3:=by rw[aw];simp
  have N:aL [] [iA] (.var 2) [Z9 (.od,cV c),Z9 (.od,.list (ns.map .str)),Z9 (.fr,.list ((rs++[r]).map cwD)),Z9 (.al,.int (1+x)),f]=.ok (.al,.list ((rs++[r]).map cwD)):=by rw[uQ];rfl
  have G:=z2n (ρ:=[Z9 (.od,cV c),Z9 (.od,.list (ns.map .str)),Z9 (.fr,.list ((rs++[r]).map cwD)),Z9 (.al,.int (1+x)),f]) (nt:=1) (js:=[]) (N':=["_law_row"]) (tg:=.nm 0) (cond:=.nil) (elt:=.ix (.var 0) (.int 0)) (λ_=>Z7) (λq=>.str q.1) (fK N rfl) rfl (λq=>[Z9 (.al,cwD q)]) (λq _=>tO (Fo q)) (λ_ _=>rfl) λq _ _=>aH (aC rfl) aJ.e rfl rfl;rw[fj.mpr λ_ _=>rfl]at G;have i:hs.map hZ=(PyData.none::(rs++[r]).map λq=>ZV q.1)++[.str r.1]:=by rw[cj,br,ei];rfl
  have j:=vy Bi hs;have B:imms (PyData.none::(rs++[r]).map λq=>ZV q.1)=true:=by show(Z7&&imms ((rs++[r]).map λq=>ZV q.1))=Z7;rw[vy (λ_=>rfl)];rfl
  have el:aL [] [iA] (.bin .Add (.bin .Add (.lst (.cons .aO .nil)) (.comp 1 [] ["_law_row"] (.nm 0) (.tv (.var 2)) .nil (.ix (.var 0) (.int 0)))) (.lst (.cons (.ix (.ix (.var 2) (.neg (.int 1))) (.int 0)) .nil))) [Z9 (.od,cV c),Z9 (.od,.list (ns.map .str)),Z9 (.fr,.list ((rs++[r]).map cwD)),Z9 (.al,.int (1+x)),f]=.ok (.fr,.list (hs.map hZ)):=by rw[i];refine Eu (x:=.list (PyData.none::(rs++[r]).map λq=>ZV q.1)) (Ev.of (Eu (Ev.of (kO (bG yA eB))) (Ev.of G) (add_list (by rw[ae];simp;omega)) B)) (Ev.of (kO (bG (aH (aH (aC rfl) (Ev.of rfl) (US rs r) (Fo r)).e aJ.e rfl rfl) eB))) (add_list (by rw[bh];simp;omega)) (i▸j)
  obtain⟨m,⟨S,_⟩,O⟩:=vz c (k:=1+x) (by omega) (by omega);have p:0<=m%hs.length:=fk _ (by omega);have lK:m%hs.length<hs.length:=g6 _ (by omega);generalize H:hs.getD (m%hs.length).toNat Z8=o
  have C:∀a,o=Z9 a->a∈(rs++[r]).map (·.1):=λa P=>by
   have b:o∈hs:=H▸getD_mem p lK;rw[P]at b;rcases bu.mp b with z|z
   .rcases bq.mp z with z|z
    .cases z
    .obtain⟨q,d,u⟩:=bz.mp z;cases u;exact bz.mpr ⟨q,d,rfl⟩
   .cases az.mp z;exact bz.mpr ⟨r,bf _ (az.mpr rfl),rfl⟩
  refine⟨_,cZ (kP el j) (cZ (AK (x:=cwD (ns.getD (1+x) ⟨#[]⟩,o)) (jz (bG (aH (aC rfl) (aC rfl) (qN (by omega) (by omega)) (by rfl)) (bG (aH (aC rfl) (bK (bW (aD (aC rfl) (aD (aC rfl) aN)) rfl O rfl).e (bM (aD (aC rfl) aN) (by rw[mQ,ae]) rfl).e (eM (by omega)) rfl).e (by rw[FQ hZ Z8 p lK,H]) (Bi o)) eB))) rfl (by rw[ae];simp;omega)) gA),?_,rs++[r],(ns.getD (1+x) ⟨#[]⟩,o),Z9 (.al,.int (1+x)),pT (Z9 (.fr,.list (hs.map hZ))),?_,A.snoc C,?_⟩
  .rw[aw,dr,List.range_succ,<-w,g]
  .rw[cj (l₁:=rs++[r])];rfl
  .rw[cj,hm,aw,dr,D (k:=pre.length+1) (by omega),<-g,Nat.add_comm x 1];rfl
 .rintro t ⟨_,rs,r,v,f,rfl,A,hm⟩
  rw[cx]at hm;exact EA (z5i rfl) ⟨rs++[r],⟨A,by rw[hm];congr 1;omega⟩,rfl⟩
theorem UU (hm:p∈a)(h:look b p.1<p.2):wi a b=false:=by unfold wi;rw[List.isEmpty_eq_false_iff];exact List.ne_nil_of_mem (dn.mpr ⟨hm,ua h⟩)
theorem UW (h:∀p∈a,¬look b p.1<p.2):wi a b=true:=by unfold wi;rw[ku,kl];exact λp c z=>h p c (t8 z)
theorem Ga (j:PK b):vo [pk a,pk b]=.ok (.fr,.bool (wi a b)):=by
 refine cU ?_
 let Q:Res Out->Prop:=λz=>z=.ok (.rt .fr (.bool (wi a b)))
 show Q _;refine cQ (AJ (yD (aC rfl) rfl (Ej Z6 j.nd) (zl b)) (D' b)) (zfr (SQ rfl (by decide) (fM a) rfl) (λpre d=>(∀p∈pre,¬look b p.1<p.2)/\∃f g,d=[Z9 (.od,pk a),Z9 (.od,pk b),Z9 (.fr,.dict (en b)),f,g]) ⟨nofun,Z8,Z8,rfl⟩ ?_ ?_)
 .rintro pre p h d k ⟨hn,f,g,rfl⟩
  refine⟨_,AM rfl rfl,?_⟩;have i:Tt [] [] (.tv (.cmp .Gt (.var 4) (.mt "get" (.var 2) (.cons (.var 3) (.cons (.int 0) .nil))))) [Z9 (.od,pk a),Z9 (.od,pk b),Z9 (.fr,.dict (en b)),Z9 (.al,.str p.1),Z9 (.al,.int p.2)] (decide (look b p.1<p.2)):=aP (bZ (aC rfl) (qO (aC rfl) (aD (aC rfl) (aD aJ.e aN)) (Ei _ _) rfl).e rfl).e rfl;by_cases c:look b p.1<p.2
  .refine .inr ⟨.fr,.bool Z6,bO (jU i (λ_=>bO (cB lQ)) λz=>absurd c (of_decide_eq_false z)),?_⟩;show _=_;rw[UU (k▸bf _ bg) c]
  .refine .inl ⟨_,cZ (jU i (λz=>absurd (t8 z) c) λ_=>gA) gA,λq l=>?_,_,_,rfl⟩;rcases bu.mp l with z|z
   .exact hn q z
   .rw[az.mp z];exact c
 .rintro d ⟨hn,f,g,rfl⟩
  show aV _ _ _ _=_;rw[UW hn];exact bO (cB lQ)
theorem LI (m:GR p)(c:GR q):FE [mr p,mr q]=.ok (.fr,.bool (eY p q)):=by
 refine cU ?_;have b:∀{ρ:Rho} {i:Nat} {p:Bool×P×P×P},ρ[i]?=Z9 (Z9 (.od,mr p))->Vv [] [vo,pG] (.ix (.var i) (.int 1)) ρ (.str (sd p.1)):=λh=>aH (aC h) aJ.e rfl rfl;have k:∀{ρ:Rho} {i j:Nat} {p q:Bool×P×P×P},ρ[i]?=Z9 (Z9 (.od,mr p))->ρ[j]?=Z9 (Z9 (.od,mr q))->GR q->Vv [] [vo,pG] (.call 0 "_law_within" (.cons (.ix (.var i) (.int 2)) (.cons (.call 1 "_law_side" (.cons (.ix (.var j) (.int 0)) (.cons (.ix (.var i) (.int 1)) .nil))) .nil))) ρ (.bool (wi p.2.2.2 (own p.1 q.2.1 q.2.2.1))):=λl n c=>bW (aD ((λh=>aH (aC h) aJ.e rfl (fM _)) l).e (aD (eX (aD ((λh=>aH (aC h) aJ.e rfl (rJ _ _)) n).e (aD (b l).e aN)) rfl (zm _ _ _)) aN)) rfl (Ga (vv c.f c.a)) rfl;have hc:Tt [] [vo,pG] (.tv (.cmp .Eq (.ix (.var 0) (.int 1)) (.ix (.var 1) (.int 1)))) [Z9 (.od,mr p),Z9 (.od,mr q)] (p.1==q.1):=aP (bZ (b rfl).e (b rfl).e (by show Res.ok (sd p.1==sd q.1)=_;rw[Ly])).e rfl;have d:=k (ρ:=[Z9 (.od,mr p),Z9 (.od,mr q)]) (i:=0) (j:=1) rfl rfl c;cases g:p.1==q.1 with
 |true=>
  have:eY p q=false:=by unfold eY ag;rw[g];rfl
  rw[this];exact uS hc g (bO (cB lQ))
 |false=>
  refine pE hc g ?_;cases h:wi p.2.2.2 (own p.1 q.2.1 q.2.2.1)with
  |false=>
   have:eY p q=false:=by unfold eY ag;rw[h,Bool.false_and,Bool.and_false]
   rw[this];rw[h]at d;exact uS (mM (aP d.e rfl)) rfl (bO (cB lQ))
  |true=>
   rw[h]at d;have:eY p q=wi q.2.2.2 (own q.1 p.2.1 p.2.2.1):=by unfold eY ag;rw[h,g];rfl
   rw[this];exact pE (mM (aP d.e rfl)) rfl (bO (cB (k rfl rfl m)))
theorem LJ (p q:Bool×P×P×P):eY p q=eY q p:=Ux _ _ _ _ _ _ _ _
theorem UX (n:Int):Fv [.int n]=.ok (.fr,.bool Z7):=rfl
theorem UY (xs:List Str)(t:Str):dQ (.list ((xs++[t]).map .str)) (.int (-1))=.ok (.str t):=by rw[cj];show Res.eG (bT (xs.map ZV++[.str t]) (-1))=_;unfold bT gE;rw[tx (by decide),aw,tw (by simp only[bh,oh];omega)];show Res.eG ((xs.map ZV++[.str t])[((-1:Int)+(((xs.map ZV).length+1:Nat):Int)).toNat]?)=_;rw[show((-1:Int)+(((xs.map ZV).length+1:Nat):Int)).toNat=(xs.map ZV).length by omega,b8 (ak _),fz];rfl
theorem LK:∀b a,(nmC (a++b)).Nodup->iX (esC a) (b.map cwD)=Z9 (esC (a++b))
 | [],a,_=>by rw[dw];rfl
 |r::b,a,nd=>by
  have e:a++r::b=(a++[r])++b:=by simp
  rw[e]at nd
  have hn:=λz=>by
   have c:(nmC (a++[r])).Nodup:=by rw[nmC,cj]at nd;exact(ij.mp nd).1
   rw[nmC,cj]at c;exact(ij.mp c).2.2 _ z _ (.head _) rfl
  have d:dput (esC a) (.str r.1) (hZ r.2)=esC (a++[r]):=by rw[Kc (K0 hn)];unfold esC;rw[cj];rfl
  rw[e,<-LK b (a++[r]) nd,<-d];show(if iW (.str r.1)=Z7 then iX (dput (esC a) (.str r.1) (hZ r.2)) (b.map cwD)else Z8)=_;rw[tw (D7 _)]
theorem UZ (b:Bool)(nd:(nmC rs).Nodup):aggD "dict" b (rs.map cwD)=.ok (.dict (esC rs)):=by show Res.eG ((iX (esC []) (rs.map cwD)).map PyData.dict)=_;rw[LK rs [] nd];rfl
theorem U0 (rs:List Cw):cO (esC rs)=true:=by unfold cO esC;rw[q9];exact cc.mpr λr _=>Bi r.2
theorem Br (nd:(nmC rs).Nodup)(i:aR (esC rs) 999 s=Z7):pH [.list (rs.map cwD),.str s]=.ok (.fr,.list ((ln (esC rs) s).map .str)):=by
 refine cU ?_
 let Q:Res Out->Prop:=λz=>z=.ok (.rt .fr (.list ((ln (esC rs) s).map .str)))
 show Q _;refine cQ (AJ (yD (aC rfl) rfl (UZ Z7 nd) (vy Fo rs)) (U0 rs)) ?_;refine cQ (kP (kO (bG (v_var rfl rfl) eB)) rfl) ?_;have ix:∀(b:List Str) (t:Str) (a:D),z0g (esC rs) (.str t)=Z9 a->imm a=Z7->Vv [] [] (.ix (.var 2) (.ix (.var 3) (.neg (.int 1)))) [Z9 (.od,.list (rs.map cwD)),Z9 (.od,.str s),Z9 (.fr,.dict (esC rs)),Z9 (.fr,.list ((b++[t]).map .str))] a:=λb t a e j=>aH (aC rfl) (aH (aC rfl) (⟨_,rfl⟩:Ev _ _ _ _ _) (UY b t) rfl).e (by show(if iW (.str t)=Z7 then Res.eG (z0g (esC rs) (.str t))else Res.no)=_;rw[tw (D7 _),e];rfl) j;refine uN (P:=λc=>c=[Z9 (.od,.list (rs.map cwD)),Z9 (.od,.str s),Z9 (.fr,.dict (esC rs)),Z9 (.fr,.list ((ln (esC rs) s).map .str))]) (λk c=>∃b t,k<=999/\b.length+k=999/\aR (esC rs) k t=Z7/\ln (esC rs) s=b++eN (esC rs) k t/\c=[Z9 (.od,.list (rs.map cwD)),Z9 (.od,.str s),Z9 (.fr,.dict (esC rs)),Z9 (.fr,.list ((b++[t]).map .str))]) 999 (by decide) ⟨[],s,ak _,rfl,i,rfl,rfl⟩ ?_ ?_
 .rintro k c ⟨b,t,l,m,f,g,rfl⟩
  rcases wj f with⟨e,el⟩|⟨a,h,rfl,e,d,el⟩
  .rw[el]at g;exact .inl ⟨aP (yB (ix b t _ e rfl).e).e rfl,by rw[g]⟩
  .refine .inr ⟨h,_,rfl,aP (yB (ix b t _ e rfl).e).e rfl,cZ (AK (ix b t _ e rfl) rfl (by rw[ae,aw];show b.length+1<1000;omega)) gA,b++[t],a,by omega,by rw[aw];show b.length+1+h=999;omega,d,by rw[g,el];simp,?_⟩;rw[cj (l₁:=b++[t])];rfl
 .rintro c rfl
  exact bO (z5i rfl)
theorem iR (ha:Ev Κ Φ a ρ x)(hb:Ev Κ Φ b ρ y)(h:dQ x y=.ok d):Ev Κ Φ (.ix a b) ρ d:=by obtain⟨g,ha⟩:=ha;obtain⟨g',hb⟩:=hb;exact⟨_,by rw[yy,ha,Res.aB,hb,Res.aB,h,Res.aB]⟩
def cE (e:En)(f:List D):D:=.dict [(.str "court",.str e.1),(.str "word",.str e.2.1),(.str "ruling",e.2.2),(.str "fate",.list f)]
def dY (h:Hd):List D:=(bw h.en.length).map λk=>cE (h.at k) (h.fa k)
theorem vD (h:Hd):(dY h).length=h.en.length:=by unfold dY;rw[ae,cx]
theorem tQ {h:Hd}(a:k<h.en.length):dQ (.list (dY h)) (.int k)=.ok (cE (h.at k) (h.fa k)):=tJ (by unfold dY;rw[ao,ee a];rfl)
theorem oP (e:En)(f:List D):dQ (cE e f) (.str "court")=.ok (.str e.1):=rfl
theorem vE (e:En)(f:List D):dQ (cE e f) (.str "word")=.ok (.str e.2.1):=rfl
theorem vF (e:En)(f:List D):dQ (cE e f) (.str "ruling")=.ok e.2.2:=rfl
theorem jX (e:En)(f:List D):dQ (cE e f) (.str "fate")=.ok (.list f):=rfl
theorem LL (h:bw n=pre++x::a):x<n:=by have:x∈bw n:=h▸bf _ bg;exact dq.mp this
theorem U1 (g:dN)(nd:(nmC rs).Nodup)(t:aR (esC rs) 999 s=Z7)(l:h.es=esC rs)(v:h.en.length<1000):FI [.list (rs.map cwD),.list (dY h),.str s,.str w]=.ok (.fr,.list (z0o (stg g h s w .none))):=by
 refine cU ?_
 let Q:Res Out->Prop:=λz=>z=.ok (.rt .fr (.list (z0o (stg g h s w .none))))
 show Q _
 let p:Nat->Bool:=λk=>((h.at k).2.1==w)&&((ln (esC rs) s).contains (h.at k).1&&((h.fa k).length==1))
 have m:stg g h s w .none=(bw h.en.length).filter p:=by unfold stg lV;rw[lx,l];refine km λk _=>?_;rw[g.s0];show(_&&(_&&_))=(_&&(_&&_));cases(h.at k).2.1==w<;>cases(ln (esC rs) s).contains (h.at k).1<;>cases(h.fa k).length==1<;>rfl
 refine cQ (kP (AH (aD (aC rfl) (aD (aC rfl) aN)) rfl (Br nd t)) (vy (λ_=>rfl) _)) (cQ (kP (kO eB) rfl) ?_);refine q_nm (AL (aD (bM (aD (aC rfl) aN) (by rw[mQ,vD]) rfl).e aN) (by rw[sW (by omega) (by omega)])) (λ_=>rfl) (λpre n=>∃b a,n=[Z9 (.od,.list (rs.map cwD)),Z9 (.od,.list (dY h)),Z9 (.od,.str s),Z9 (.od,.str w),Z9 (.fr,.list ((ln (esC rs) s).map .str)),Z9 (.fr,.list (z0o (pre.filter p))),b,a]/\pT b=b/\pT a=a) ⟨Z8,Z8,rfl,rfl,rfl⟩ ?_ ?_
 .rintro pre k o n q ⟨b,a,rfl,_,_⟩
  have u:pre.length<1000:=by have:=congrArg jh q;rw[cx,aw]at this;omega
  let c:Rho:=[Z9 (.od,.list (rs.map cwD)),Z9 (.od,.list (dY h)),Z9 (.od,.str s),Z9 (.od,.str w),Z9 (.fr,.list ((ln (esC rs) s).map .str)),Z9 (.fr,.list (z0o (pre.filter p))),Z9 (.al,.int k),a]
  let f:Rho:=[Z9 (.od,.list (rs.map cwD)),Z9 (.od,.list (dY h)),Z9 (.od,.str s),Z9 (.od,.str w),Z9 (.fr,.list ((ln (esC rs) s).map .str)),Z9 (.fr,.list (z0o (pre.filter p))),Z9 (.al,.int k),Z9 (.od,cE (h.at k) (h.fa k))]
  have r:aV [] [pH] (.asg (.nm 7) (.ix (.var 1) (.var 6))) c=.ok (.nx f):=by show((dQ (.list (dY h)) (.int k)>>=λd=>Res.ok (gJ d (if imm (.list (dY h))=Z7 then .fr else .od),d))>>=λx=>Res.ok (Out.nx (c.set 7 (Z9 (z1o x)))))=_;rw[tQ (LL q)];rfl
  have i:Tt [] [pH] (.and (.tv (.cmp .Eq (.ix (.var 7) (.str "word")) (.var 3))) (.and (.tv (.cmp .In (.ix (.var 7) (.str "court")) (.var 4))) (.tv (.cmp .Eq (.bi "len" (.cons (.ix (.var 7) (.str "fate")) .nil)) (.int 1))))) f (p k):=
   qP (aP (bZ (aH (aC rfl) cP.e (vE _ _) rfl).e (aC rfl) (eq_str _ _)).e rfl) λ_=>qP (aP (bZ (k:=(ln (esC rs) s).contains (h.at k).1) (aH (aC rfl) cP.e (oP _ _) rfl).e (aC rfl) (wu _ _)).e rfl) λ_=>aP (bZ (bM (aD (iR (aC rfl) cP.e (jX _ _)) aN) rfl rfl).e aJ.e (by
    show Res.ok (gI (.int _) (.int _))=_;rw[Em]
    congr 1
    rw[ju,decide_eq_true_iff,beq_iff_eq];omega)).e rfl
  cases j:p k with
  |true=>
   rw[j]at i;refine⟨_,cZ r (cZ (jU i (λ_=>cZ (AK (v_var rfl rfl) rfl ?_) gA) λz=>by cases z) gA),Z9 (.al,.int k),Z9 (.od,cE (h.at k) (h.fa k)),?_,rfl,rfl⟩
   .unfold z0o;rw[ae];exact j0 (cn _ _) u
   .rw[gz,gj j];unfold z0o;rw[cj];rfl
  |false=>rw[j]at i;refine⟨_,cZ r (cZ (jU i nofun λ_=>gA) gA),Z9 (.al,.int k),Z9 (.od,cE (h.at k) (h.fa k)),?_,rfl,rfl⟩;rw[gz,gk (by rw[j];decide),om,dw]
 .rintro n ⟨b,a,rfl,_,_⟩
  show _=_;rw[m];exact bO (z5i rfl)
open PySem.Spec PyProof.Rows L2
def kvE (e:En)(v:V)(f:Addr):List (Key×V):=[(.inr "court",.str e.1),(.inr "word",.str e.2.1),(.inr "ruling",v),(.inr "fate",.ref f)]
structure Les (K:Z5)(H:Hp)(a:Addr)(ds fs:List Addr)(h:Hd):Prop where
 lst:H a=Z9 (.lst (ds.map V.ref))
 dl:ds.length=h.en.length
 ent:∀(k:Nat) d,ds[k]?=Z9 d->∃f v,fs[k]?=Z9 f/\H d=Z9 (.dK (kvE (h.at k) v f))/\Rep K H NoB v (h.at k).2.2/\ZW (h.at k).1=Z7/\ZW (h.at k).2.1=Z7
 dM:yU K H fs h.ft
 nd:fs.Nodup
 n1:a∉fs
theorem LM:ZW "court"=true:=by decide+kernel
theorem LN:ZW "word"=true:=by decide+kernel
theorem LO:ZW "ruling"=true:=by decide+kernel
theorem Bs:ZW "fate"=true:=by decide+kernel
section
variable {K:Z5}{H H':Hp}{a:Addr}{ds fs:List Addr}{h:Hd}
theorem Les.keep (t:Les K H a ds fs h)(c:∀b o,b=a\/b∈ds\/b∈fs->H b=Z9 o->H' b=Z9 o)(g:∀a o,H a=Z9 o->Fix o->H' a=Z9 o):Les K H' a ds fs h:=⟨c _ _ (.inl rfl) t.lst,t.dl,λk d e=>by obtain⟨f,v,i,j,r,s⟩:=t.ent k d e;exact⟨f,v,i,c _ _ (.inr (.inl (aq e))) j,Rep.keep (λb o e z=>g b o e (z.resolve_left id)) (λ_ z=>z) _ r,s⟩,t.dM.keep (λb l o e=>c b o (.inr (.inr l)) e) g,t.nd,t.n1⟩
theorem Les.same (t:Les K H a ds fs h)(s:Same H H'):Les K H' a ds fs h:=t.keep (λb o _ e=>s b o e) λa o e _=>s a o e
theorem Les.rep1 (t:Les K H a ds fs h)(e:ds[k]?=Z9 d):Rep K H AnyB (.ref d) (cE (h.at k) (h.fa k)):=by obtain⟨f,v,e1,e2,r,s1,s2⟩:=t.ent k d e;obtain⟨ws,e3,rw'⟩:=t.dM.2 k f e1;exact⟨d,_,rfl,e2,trivial,.inr "court",.str (h.at k).1,_,rfl,rfl,LM,⟨rfl,s1⟩,.inr "word",.str (h.at k).2.1,_,rfl,rfl,LN,⟨rfl,s2⟩,.inr "ruling",v,_,rfl,rfl,LO,r.weak λ_ z=>z.elim,.inr "fate",.ref f,_,rfl,rfl,Bs,⟨f,ws,rfl,.inl ⟨e3,trivial⟩,rw'.weak λ_ z=>z.elim⟩,rfl⟩
theorem Les.rep (t:Les K H a ds fs h):Rep K H AnyB (.ref a) (.list (dY h)):=by refine⟨a,_,rfl,.inl ⟨t.lst,trivial⟩,An (by rw[ae,vD];exact t.dl) λi v d e c=>?_⟩;rw[ao]at e;obtain⟨b,f,rfl⟩:=bp.mp e;unfold dY at c;rw[ao,ee (t.dl▸(ax.mp f).1)]at c;cases c;exact t.rep1 f
theorem Les.there (t:Les K H a ds fs h)(c:b=a\/b∈ds\/b∈fs):H b≠none:=by
 rcases c with rfl|c|c
 .rw[t.lst];simp
 .obtain⟨k,d⟩:=ce.mp c;obtain⟨_,_,_,e,_⟩:=t.ent k b d;rw[e];simp
 .obtain⟨k,d⟩:=ce.mp c;obtain⟨f,e,_⟩:=t.dM.2 k b d;rw[e];simp
theorem Les.cT (t:Les K H a ds fs h)(c:b=a\/b∈fs)(e:H b=Z9 o):¬Fix o:=by
 rcases c with rfl|c
 .rw[t.lst]at e;cases e;exact id
 .obtain⟨k,d⟩:=ce.mp c;obtain⟨g,f,_⟩:=t.dM.2 k b d;rw[f]at e;cases e;exact id
theorem Les.LP (t:Les K H a ds fs h)(hd:d∈ds)(c:H b=Z9 (.lst g)):d≠b:=by
 rintro rfl
 obtain⟨k,f⟩:=ce.mp hd;obtain⟨_,_,_,e,_⟩:=t.ent k d f;rw[e]at c;cases c
theorem Les.iQ (t:Les K H a ds fs h)(e:fs[k]?=Z9 f)(hf:H f=Z9 (.lst g))(i:Reps K H NoB g (h.fa k))(o:Rep K H NoB y r):Les K (upd H f (.lst (g++[y]))) a ds fs {h with ft:=h.ft.set k (h.fa k++[r])}:=by
 have l:=wy (ys:=g++[y]) hf;refine⟨by rw[aG λ(z:a=f)=>t.n1 (z▸(aq e))];exact t.lst,t.dl,λj d c=>?_,⟨by rw[cw];exact t.dM.1,λj b c=>?_⟩,t.nd,t.n1⟩
 .obtain⟨p,v,q,m,u,s⟩:=t.ent j d c;exact⟨p,v,q,by rw[aG (t.LP (aq c) hf)];exact m,Rep.keep l (λ_ z=>z) _ u,s⟩
 .by_cases n:j=k
  .subst n;rw[e]at c;cases c;refine⟨g++[y],bF,?_⟩;rw[aa,cq (t.dM.1▸((ax.mp e).1))];exact Reps.keep l (λ_ z=>z) _ (i.append (Reps.cons o rfl))
  .obtain⟨w,m,x⟩:=t.dM.2 j b c;refine⟨w,by rw[aG (λz=>by subst z;exact n (Bd t.nd c e))];exact m,?_⟩;rw[aa,b9 (Ne.symm n)];exact Reps.keep l (λ_ z=>z) _ x
theorem LQ (e:(l++[x])[k]?=Z9 y):(k<l.length/\l[k]?=Z9 y)\/(k=l.length/\y=x):=by
 by_cases h:k<l.length
 .rw[cy h]at e;exact .inl ⟨h,e⟩
 .rw[b8 (by omega)]at e;have a:=(ax.mp e).1;rw[dr]at a;obtain rfl:k=l.length:=by omega
  rw[fz]at e;cases e;exact .inr ⟨rfl,rfl⟩
theorem Les.put1 (t:Les K H a ds fs h)(u:h.ft.length=h.en.length)(hd:H d=Z9 (.dK (kvE e v f)))(A:Rep K H NoB v e.2.2)(B:ZW e.1=Z7)(C:ZW e.2.1=Z7)(hf:H f=Z9 (.lst p))(m:Reps K H NoB p g)(D:f∉fs)(q:f≠a):
  Les K (upd H a (.lst (ds.map V.ref++[.ref d]))) a (ds++[d]) (fs++[f]) ⟨h.es,h.en++[e],h.ft++[g],h.ld⟩:=by
 have j:=wy (ys:=ds.map V.ref++[.ref d]) t.lst;have fl:=t.dM.1;have E:∀{k:Nat},k<h.en.length->Hd.at ⟨h.es,h.en++[e],h.ft++[g],h.ld⟩ k=h.at k:=λ{k} i=>by unfold Hd.at;rw[aa,cy i,<-aa]
 have ne:∀{b:Addr} {o:HO},H b=Z9 o->(∀z,o≠.lst z)->b≠a:=λ{b o} e z w=>by subst w;rw[t.lst]at e;cases e;exact z _ rfl
 refine⟨by rw[bF,cj];rfl,by rw[aw,aw,t.dl];rfl,λk F c=>?_,⟨by rw[aw,aw,fl];rfl,λk b c=>?_⟩,?_,λz=>?_⟩
 .rcases LQ c with⟨i,c⟩|⟨rfl,rfl⟩
  .obtain⟨G,I,r,l,J,s⟩:=t.ent k F c;rw[E (t.dl▸i)];exact⟨G,I,by rw[cy (ax.mp r).1];exact r,by rw[aG (ne l nofun)];exact l,Rep.keep j (λ_ z=>z) _ J,s⟩
  .have n:Hd.at ⟨h.es,h.en++[e],h.ft++[g],h.ld⟩ ds.length=e:=by
    unfold Hd.at;rw[aa,t.dl,b8 (ak _),fz];rfl
   rw[n];exact⟨f,v,by rw[t.dl,<-u,<-fl,b8 (ak _),fz];rfl,by rw[aG (ne hd nofun)];exact hd,Rep.keep j (λ_ z=>z) _ A,B,C⟩
 .rcases LQ c with⟨i,c⟩|⟨rfl,rfl⟩
  .obtain⟨L,l,M⟩:=t.dM.2 k b c;refine⟨L,by rw[aG λ(z:b=a)=>t.n1 (z▸aq c)];exact l,?_⟩;rw[aa,cy (fl▸i),<-aa];exact Reps.keep j (λ_ z=>z) _ M
  .refine⟨p,by rw[aG q];exact hf,?_⟩;rw[aa,fl,b8 (ak _),fz];exact Reps.keep j (λ_ z=>z) _ m
 .exact ij.mpr ⟨t.nd,by simp,λx N y O z=>D (by rw[<-az.mp O,<-z];exact N)⟩
 .rcases bu.mp z with z|z
  .exact t.n1 z
  .exact q (az.mp z).symm
theorem LR (t:D):∀L ft k,k∉L->(fQ ft L t).getD k []=ft.getD k []
 | [],ft,k,_=>rfl
 |i::L,ft,k,h=>by show(fQ (ft.set i (ft.getD i []++[t])) L t).getD k []=_;rw[LR t L _ k λz=>h (.tail _ z),aa,b9 (λ(z:i=k)=>h (z▸ .head _)),<-aa]
end
inductive Sl (K:Z5)(H:Hp):L2.St->Rho->Prop where
 |nil:Sl K H [] []
 |no {o:Option V} {σ:L2.St} {ρ:Rho} (t:Sl K H σ ρ):Sl K H (o::σ) (Z8::ρ)
 |da {v:V} {d:D} {B:Ad->Prop} {σ:L2.St} {ρ:Rho} (r:Rep K H B v d) (t:Sl K H σ ρ):Sl K H (Z9 v::σ) (Z9 (.od,d)::ρ)
theorem Sl.len {K:Z5}(s:Sl K H σ ρ):σ.length=ρ.length:=by
 induction s with
 |nil=>rfl
 |no t a=>rw[bh,bh,a]
 |da r t a=>rw[bh,bh,a]
theorem Sl.at {K:Z5}(s:Sl K H σ ρ):∀(i:Nat) g d,ρ[i]?=Z9 (Z9 (g,d))->g=G.od/\∃v B,σ[i]?=Z9 (Z9 v)/\Rep K H B v d:=by
 induction s with
 |nil=>intro i g d e;cases e
 |no t a=>
  intro i g d e;cases i with
  |zero=>cases e
  |succ i=>exact a i g d e
 |da r t a=>
  intro i g d e;cases i with
  |zero=>cases e;exact⟨rfl,_,_,rfl,r⟩
  |succ i=>exact a i g d e
theorem Sl.so {K:Z5}(s:Sl K H a b):StOk K (F0 H) H a b:=qW s.len s.at
theorem Sl.same {K:Z5}(s:Sl K H σ ρ)(m:Same H b):Sl K b σ ρ:=by
 induction s with
 |nil=>exact .nil
 |no t a=>exact .no a
 |da r t a=>exact .da (r.same m λ_ z=>z) a
theorem dZ {K:Z5}(tl:L2.St):Sl K H tl (ay tl.length Z8):=by
 induction tl with
 |nil=>exact .nil
 |cons o tl ih=>exact .no ih
theorem LS {A:Ha}{x p b:Addr}(hb:({A with as:=A.as++[p]}:Ha).own x b):A.own x b\/b=p:=by
 rcases hb with h|h|h|h|h
 .exact .inl (.inl h)
 .exact .inl (.inr (.inl h))
 .exact .inl (.inr (.inr (.inl h)))
 .exact .inl (.inr (.inr (.inr (.inl h))))
 .rcases bu.mp h with h|h
  .exact .inl (.inr (.inr (.inr (.inr h))))
  .exact .inr (az.mp h)
theorem eq_self (h:bE 40 d=Z7):cmpD .Eq d d=.ok true:=by show(if(bE 40 d&&bE 40 d)=Z7 then Res.ok (gI d d)else Res.no)=_;rw[h,tw (show(Z7&&Z7)=Z7 from rfl),show gI d d=Z7 from E3 d 40 h]
section
variable {K:Z5}{HC CC:Addr}{mg:Str->Option Value}{H1:Hp}{Q:Addr->Hp->Prop}{E:XK}
theorem kH (ct:Crt K CC H1 y dy d kvs es)(i:z0n [] (es.map ent)=Z9 es)(j:es.length<1000)(q:∀x A a,Same H1 a->H1 x=Z8->(∀b,A.own x b->H1 b=Z8)->H1 A.c=Z8->Hou K HC CC a x A ⟨es,[],[],Z8⟩->Q x a):
  ∀x dx,H1 x=Z8->H1 dx=Z8->dx≠x->spHi K HC CC (.ref x::([.ref y]++[])) (upd (upd H1 dx (.own x)) x (.ins HC dx [])) (λv k=>v=.aO/\Q x k) E:=by
 intro x dx f h l;have g:Same H1 (upd (upd H1 dx (.own x)) x (.ins HC dx [])):=λb o e=>by rw[aG (bR e f),aG (bR e h)];exact e
 refine⟨x,dx,y,dy,d,kvs,es,rfl,bF,ct.same g,i,j,λa A m n p t=>⟨rfl,q x A a (λb o e=>m b o (bR e f) (g b o e)) f (λb r=>?_) (g.none p) t⟩⟩;rcases n b r with rfl|z
 .exact f
 .exact g.none z
theorem kC (rp:Rep K H1 B vp (.list ps))(af:z0n [] ps=Z9 es)(hz:ps.length<1000)(q:∀x dx d kvs H',Same H1 H'->H1 x=Z8->H1 d=Z8->Crt K CC H' x dx d kvs es->Q x H'):
  ∀x dx,H1 x=Z8->H1 dx=Z8->dx≠x->zan K CC mg (.ref x::([vp]++[])) (upd (upd H1 dx (.own x)) x (.ins CC dx [])) (λv H2=>v=.aO/\Q x H2) E:=by
 intro x dx hx A5 Du;have s2:Same H1 (upd (upd H1 dx (.own x)) x (.ins CC dx [])):=λb o e=>by rw[aG (bR e hx),aG (bR e A5)];exact e
 obtain⟨im,U2⟩:=Fi af;refine⟨x,dx,vp,ps,AnyB,rfl,bF,rp.same s2 λ_ _=>trivial,im,U2,hz,?_⟩;generalize upd (upd H1 dx (.own x)) x (.ins CC dx [])=H2 at s2;unfold uY;rw[af];exact λH' d kvs hd k1 ct=>⟨rfl,q x dx d kvs H' (λb o e=>k1 b o (bR e hx) (s2 b o e)) hx (s2.none hd) ct⟩
end
theorem U3:Hok b ⟨es,[],[],Z8⟩:=⟨rfl,c9 _,(λe a=>(by cases a)),(λf hf=>(by cases hf))⟩
theorem dJ (a:Z.Κ=[])(b:Z.Φ=Φ)(s:Sl Z.K H g ρ)(e:Ev [] Φ c ρ d)(q:∀v f,Same H f->Rep Z.K f AnyB v d->Q v f):wE Z (.aX c) g H Q:=by obtain⟨h,e⟩:=e;exact Ks s.so (by rw[a,b];exact e) q
theorem zo (a:Z.Κ=[])(d:Z.Φ=Φ)(s:Sl Z.K H g ρ)(e:Tt [] Φ c ρ b)(q:∀f,Same H f->R b f):wT Z (.tp c) g H R:=TF s.so (by rw[a,d];exact e) q
theorem Sl.iS {K:Z5}(t:Sl K H a ρ):Sl K H (Z9 (.int i)::a) (Z9 (.od,.int i)::ρ):=.da (B:=AnyB) (d:=.int i) rfl t
theorem SqL.same {K:Z5}(h:SqL K H a vs)(s:Same H H'):SqL K H' a vs:=by
 rcases h with(h|⟨o,h⟩)|h
 .exact .inl (.inl (s _ _ h))
 .exact .inl (.inr ⟨o,s _ _ h⟩)
 .exact .inr h
theorem U4 {b:L2.St}(d:a.length=b.length)(e:a[i]?=Z9 (Z9 w))(r:∀j,j≠i->a[j]?=b[j]?):a=b.set i (Z9 w):=by
 refine gg λj=>?_;by_cases c:j=i
 .subst c;rw[e,cq (d▸(ax.mp e).1)]
 .rw[r j c,b9 (Ne.symm c)]
theorem Gb {K:Z5}(r:Rep K H B v d)(b:i<a.length)(q:∀w,Rep K H AnyB w d->Q (a.set i (Z9 w)) H):tDG K (.nm i) v a H Q:=zck r b λc w f e g rest=>by rw[U4 f e rest];exact q w g
namespace L2k
abbrev LU (i:Nat):C:=.ix (.var i) (.str "ruling")
abbrev LV:WS:=.seq (.bN (.tp (.tv (.call 0 "_law_clash" (.cons (.var 5) (.cons (.ix (.ix (.var 1) (.var 6)) (.str "ruling")) .nil))))) (.seq (.ret (.tup (.cons (.aX (.str "barred")) (.cons (.raw 6) .nil)))) .nil) .nil) .nil
abbrev U5:C:=.and (.tv (.cmp .Eq (.ix (.var 7) (.str "word")) (.var 4))) (.and (.tv (.cmp .Eq (.bi "len" (.cons (.ix (.var 7) (.str "fate")) .nil)) (.int 1))) (.and (.tv (.var 8)) (.tv (.call 0 "_law_clash" (.cons (.var 5) (.cons (LU 7) .nil))))))
abbrev LW:WS:=.seq (.asg 8 (.aX (.and (.cmp .NotEq (.ix (.var 7) (.str "court")) (.var 3)) (.cmp .In (.var 3) (.call 1 "_law_line" (.cons (.var 0) (.cons (.ix (.var 7) (.str "court")) .nil))))))) (.seq (.bN (.tp U5) (.seq (.app (.uT (.raw 7) (.aX (.str "fate"))) (.tup (.cons (.aX (.str "fell")) (.cons (.raw 2) (.cons (.aX (.bi "len" (.cons (.var 1) .nil))) .nil))))) .nil) .nil) .nil)
abbrev U6:WS:=.seq (.app (.raw 1) (.d4 "court" "word" "ruling" "fate" (.raw 3) (.raw 4) (.raw 5) (.lst (.cons (.tup (.cons (.aX (.str "entered")) (.cons (.raw 2) (.cons (.raw 3) .nil)))) .nil)))) (.seq (.ret (.tup (.cons (.aX (.str "number")) (.cons (.aX (.bin .Sub (.bi "len" (.cons (.var 1) .nil)) (.int 1))) .nil)))) .nil)
def el:WS:=.seq (.gB 6 (.aX (.call 2 "_law_standing" (.cons (.var 0) (.cons (.var 1) (.cons (.var 3) (.cons (.var 4) .nil)))))) LV) (.seq (.gB 7 (.raw 1) LW) U6)
end L2k
abbrev Φe:List Fn:=[FE,pH,FI]
structure PhL (φ:dN):Prop where
 g1:∀p,GR p->φ.G (mr p)
 g2:∀r,φ.G r->∃p,GR p/\r=mr p
 g3:∀p q,GR p->GR q->φ.ag (mr p) (mr q)=eY p q
theorem z6x (I:Addr->Nat->L2.St->Hp->Prop)(l:∀R,(∀a j,SqL Z.K j a d->I a 0 t j->R (.ref a) j)->wE Z it t H R)(x:∀a k c e,I a k c e->SqL Z.K e a d)
  (one:∀a k v c e,d[k]?=Z9 v->I a k c e->∀n,n.rt=u.rt->(∀f o,I a (k+1) f o->n.nx f o)->wS Z b n (c.set i (Z9 v)) e) (q:∀a c e,I a d.length c e->u.nx c e):wS Z (.gB i it b) u t H:=by
 refine l _ λa j z A=>⟨a,rfl,⟨d,z⟩,λk m c e=>m=d.length-k/\k<=d.length/\I a k c e,⟨_,rfl,c9 _,A⟩,?_⟩
 rintro k m c e ⟨rfl,C,p⟩
 have hs:=x a k c e p;by_cases g:k<d.length
 .refine .inr ⟨⟨d,d[k],hs,ac g⟩,λh r=>d.length-(k+1)=d.length-(k+1)/\k+1<=d.length/\I a (k+1) h r,λh r w=>⟨_,by omega,w⟩,λy r s=>?_⟩;obtain⟨B,s⟩:=s;rw[B];exact one a k y c e (s _ hs) p _ rfl λf o w=>⟨rfl,g,w⟩
 .have :k=d.length:=by omega
  subst this;exact .inl ⟨⟨d,hs,ak _⟩,q a c e p⟩
abbrev FrmL (a:Addr)(fs:List Addr)(H H':Hp):Prop:=∀b o,b≠a->b∉fs->H b=Z9 o->H' b=Z9 o
abbrev eT (φ:dN)(K:Z5)(H:Hp)(a:Addr)(ds fs:List Addr)(h:Hd)(n:Int)(s w:Str)(r:D)(Q:VK):Prop:=
 match bar φ h s w r with
 |some k=>∀H' v,Same H H'->Rep K H' NoB v (.tuple [.str "barred",.int k])->Q v H'
 |none=>∀H' d f v,FrmL a fs H H'->H d=Z8->H f=Z8->Les K H' a (ds++[d]) (fs++[f]) (h.put n s w r (fll φ h s w r))->Rep K H' NoB v (.tuple [.str "number",.int h.en.length])->Q v H'
theorem U7 {a:Type}{f:a->Bool}{L:List a}{x:a}(e:L[k]?=Z9 x)(c:∀y∈L.take k,f y=Z6)(d:f x=Z7):L.find? f=Z9 x:=by have b:=(ax.mp e).1;have this:=(oo k L).symm;rw[g8 b,show L[k]=x by rw[ac b]at e;exact tz e]at this;rw[this,kh,i8.mpr λy g=>by rw[c y g];decide,i7 d];rfl
theorem LX (m:Nat):cmpD .Eq (.int m) (.int 1)=.ok (m==1):=by
 show Res.ok (gI (.int _) (.int _))=_;rw[Em]
 congr 1
 rw[ju,decide_eq_true_iff,beq_iff_eq];omega
abbrev pJ (vr:V)(a:Addr)(n:Int)(vc vw vm:V)(tl:L2.St):L2.St:=Z9 vr::Z9 (.ref a)::Z9 (.int n)::Z9 vc::Z9 vw::Z9 vm::tl
abbrev LY (rs:List Cw)(h:Hd)(n:Int)(s w:Str)(p:Bool×P×P×P)(tl:Rho):Rho:=Z9 (.od,.list (rs.map cwD))::Z9 (.od,.list (dY h))::Z9 (.od,.int n)::Z9 (.od,.str s)::Z9 (.od,.str w)::Z9 (.od,mr p)::tl
theorem vG {K:Z5}(t:Les K H a j fs h)(rr:Rep K H B d (.list (rs.map cwD)))(rc:Rep K H B e (.str s))(b:Rep K H B f (.str w))(rm:Rep K H B g (mr p))(i:Sl K H tl c):Sl K H (pJ d a n e f g tl) (LY rs h n s w p c):=.da rr (.da t.rep (.iS (.da rc (.da b (.da rm i)))))
theorem zp (ok:Hok φ h)(hF:PhL φ)(hk:k<h.en.length):∃q,GR q/\(h.at k).2.2=mr q:=hF.g2 _ (ok.gd _ (aq (Hd.get hk))).1
theorem U8 (h:a[i]?=Z9 (Z9 (.od,cE e f)))(b:imm e.2.2=Z7):Vv [] Φ (L2k.LU i) a e.2.2:=aH (aC h) cP.e (vF e f) b
theorem zlf (u:Z.Κ=[])(A:Z.Φ=Φe)(U:PhL j)(nd:(nmC rs).Nodup)(C:h.es=esC rs)(ok:Hok j h)(hb:h.en.length<900)(t:Les Z.K H a ds fs h)(rr:Rep Z.K H B I (.list (rs.map cwD)))(rc:Rep Z.K H B J (.str s))(D:Rep Z.K H B M (.str w))(rm:Rep Z.K H B N (mr p))(V:GR p)(hc:z1j h.es s=Z7)
  (q1:∀k,bar j h s w (mr p)=Z9 k->∀d v,Same H d->Rep Z.K d NoB v (.tuple [.str "barred",.int k])->D0.rt v d)
  (q2:bar j h s w (mr p)=Z8->∀r d,Same H d->D0.nx (pJ I a n J M N [r,Z8,Z8]) d):
  wS Z (.gB 6 (.aX (.call 2 "_law_standing" (.cons (.var 0) (.cons (.var 1) (.cons (.var 3) (.cons (.var 4) .nil)))))) L2k.LV) D0 (pJ I a n J M N [Z8,Z8,Z8]) H:=by
 obtain⟨_,W⟩:=au.mp hc;rw[C]at W
 let L:=stg j h s w .none
 let g:Nat->Bool:=λk=>j.ag (h.at k).2.2 (mr p)
 refine z6x (λb k l d=>Same H d/\SqL Z.K d b (oK L)/\(∀y∈L.take k,g y=Z6)/\∃r,l=pJ I a n J M N [r,Z8,Z8]) (λR k=>?_) (λ_ _ _ _ z=>z.2.1) (λb k v l d hv z D2 O nx=>?_) λb l d z=>?_
 .refine dJ u A (vG t rr rc D rm (dZ [Z8,Z8,Z8])) (eX (aD (aC rfl) (aD (aC rfl) (aD (aC rfl) (aD (aC rfl) aN)))) rfl (U1 j nd W C (by omega))) λv H1 o r1=>?_;obtain⟨b,vs,rfl,P,Q⟩:=mL r1;rw[yV Q]at P;exact k b H1 P ⟨o,P,nofun,Z8,rfl⟩
 .obtain⟨o,sq,c,r,rfl⟩:=z;obtain⟨m,hm,rfl⟩:=bp.mp (ao▸hv);have E:=(λk hk=>yX (dn.mp hk).1) m (aq hm);obtain⟨S,F,q⟩:=zp ok U E;have X:g m=eY p S:=by show j.ag (h.at m).2.2 (mr p)=_;rw[q,U.g3 _ _ F V,LJ]
  refine eP (lX (zo u A ((vG t rr rc D rm (.iS (dZ _))).same o) (aP (bW (aD (aC rfl) (aD (aH (iR (aC rfl) (aC rfl) (tQ E)) cP.e (vF _ _) (q▸mR S)).e aN)) rfl (q▸LI V F) rfl).e rfl) λH2 T=>?_));cases G:eY p S with
  |true=>refine tM (lU (aI (jC Bl λH3 s3=>aI (aF rfl (bJ ⟨by rw[cb];simp,λx hx=>?_⟩)))));rw[O];exact q1 m (U7 (f:=g) hm c (by rw[X,G])) _ _ (o.trans (T.trans (s3.trans (Same.upd hx)))) (eO hx (Reps.cons ⟨rfl,Bl⟩ (Reps.cons rfl rfl)))
  |false=>
   refine fU Z (fU Z (nx _ H2 ⟨o.trans T,SqL.same sq T,λy i=>?_,Z9 (.int m),rfl⟩));have:L.take (k+1)=L.take k++[m]:=by rw[kg,hm];rfl
   rw[this]at i;rcases bu.mp i with i|i
   .exact c y i
   .rw[az.mp i,X,G]
 .obtain⟨o,_,c,r,rfl⟩:=z;refine q2 (i8.mpr λy i=>?_) r d o;have:=c y (by rw[n5 (by unfold oK;rw[ae];exact ak _)];exact i);show ¬g y=Z7;rw[this];decide
theorem LZ (e:En)(v:V)(f:Addr):cM (kvE e v f) (.inr "fate")=Z9 (.ref f):=by unfold kvE;rw[uh (by simp;decide),uh (by simp;decide),uh (by simp;decide),xw rfl]
def gF (φ:dN)(rs:List Cw)(h:Hd)(s w:Str)(r:D)(k:Nat):Bool:=((h.at k).2.1==w)&&(((h.fa k).length==1)&&((!((h.at k).1==s)&&(ln (esC rs) (h.at k).1).contains s)&&φ.ag (h.at k).2.2 r))
theorem U9 (a:h.es=esC rs):fll b h s w r=(bw h.en.length).filter (gF b rs h s w r):=by unfold fll lV;rw[lx,a];refine km λk _=>?_;rw[b.s0];unfold gF;cases(h.at k).2.1==w<;>cases(h.fa k).length==1<;>cases(h.at k).1==s<;>cases(ln (esC rs) (h.at k).1).contains s<;>cases b.ag (h.at k).2.2 r<;>rfl
theorem L1 (g:Nat->Bool)(k:Nat):(bw (k+1)).filter g=(bw k).filter g++(if g k then[k]else[]):=by
 rw[List.range_succ]
 congr 1
 cases e:g k<;>simp[e]
theorem zl2 (C:Z.Κ=[])(E:Z.Φ=Φe)(hF:PhL φ)(nd:(nmC rs).Nodup)(N:h.es=esC rs)(ok:Hok φ h)(hb:h.en.length<900)(t:Les Z.K H a ds fs h)(rr:Rep Z.K H B O (.list (rs.map cwD)))(rc:Rep Z.K H B vc (.str s))(rw':Rep Z.K H B vw (.str w))(rm:Rep Z.K H B vm (mr p))(hp:GR p)(hB:∀b,B (Z9 b)->b≠a/\b∉fs)
  (q:∀M F c,FrmL a fs H c->Les Z.K c a ds fs {h with ft:=fQ h.ft (fll φ h s w (mr p)) (z8d n h.en.length)}->D0.nx (pJ O a n vc vw vm [o6,M,F]) c):
  wS Z (.gB 7 (.raw 1) L2k.LW) D0 (pJ O a n vc vw vm [o6,Z8,Z8]) H:=by
 generalize htd:z8d n h.en.length=P at q;generalize Q:gF φ rs h s w (mr p)=g;have U':fll φ h s w (mr p)=(bw h.en.length).filter g:=Q▸U9 N;rw[U']at q;have fix:∀{c},FrmL a fs H c->∀b o,H b=Z9 o->Fix o->c b=Z9 o:=λ{c} f b o e z=>f b o (λy=>t.cT (.inl y) e z) (λy=>t.cT (.inr y) e z) e
 have kB:∀{c} {v:V} {d:D},FrmL a fs H c->Rep Z.K H B v d->Rep Z.K c B v d:=λ{c v d} f r=>Rep.keep (λb o e z=>by
  rcases z with z|z
  .exact f b o (hB b z).1 (hB b z).2 e
  .exact fix f b o e z) (λ_ z=>z) d r
 refine z6x (λb k l c=>b=a/\FrmL a fs H c/\Les Z.K c a ds fs {h with ft:=fQ h.ft ((bw k).filter g) P}/\∃M F,l=pJ O a n vc vw vm [o6,M,F]) (λR k=>aF rfl (k a H (SqL.of t.lst) ⟨rfl,λb o _ _ e=>e,t,Z8,Z8,rfl⟩)) (λb k l c z=>by rw[z.1];exact SqL.of z.2.2.1.lst) (λb k v l c hv z D2 Va nx=>?_) λb l c z=>?_
 .obtain⟨rfl,fr,u,M,F,rfl⟩:=z;rw[ao]at hv;obtain⟨d,hd,rfl⟩:=bp.mp hv;have S:k<h.en.length:=t.dl▸(ax.mp hd).1;obtain⟨pq,T,G⟩:=zp ok hF S;generalize I:fQ h.ft ((bw k).filter g) P=ft at u;have U:ft.getD k []=h.fa k:=by rw[<-I];exact LR P _ _ k λz=>absurd (dq.mp (dn.mp z).1) (dm k)
  have re:Rep Z.K c AnyB (.ref d) (cE (h.at k) (h.fa k)):=by have:=u.rep1 hd;rw[show Hd.fa {h with ft:=ft} k=h.fa k from U]at this;exact this
  have L3:=(au.mp (ok.gd _ (aq (Hd.get S))).2.2).2;rw[N]at L3;have sl:∀{J:Hp} {o:Option V} {L:Rho},Same c J->Sl Z.K J [o] L->Sl Z.K J (pJ O b n vc vw vm [o6,Z9 (.ref d),o]) (LY rs {h with ft:=ft} n s w p (Z8::Z9 (.od,cE (h.at k) (h.fa k))::L)):=λ{J o L} A tl=>vG (u.same A) ((kB fr rr).same A λ_ z=>z) ((kB fr rc).same A λ_ z=>z) ((kB fr rw').same A λ_ z=>z) ((kB fr rm).same A λ_ z=>z) (.no (.da (re.same A λ_ z=>z) tl));refine dX (dJ C E (sl (Same.refl c) (dZ [F])) (v_and (bZ (k:=!((h.at k).1==s)) (aH (aC rfl) cP.e (oP _ _) rfl).e (aC rfl) (ne_str _ _)).e λ_=>bZ (k:=(ln (esC rs) (h.at k).1).contains s) (aC rfl) (eX (aD (aC rfl) (aD (aH (aC rfl) cP.e (oP _ _) rfl).e aN)) rfl (Br nd L3)) (wu _ _)).e λv8 H1 s1 r8=>?_);cases r8;have L5:g k=(((h.at k).2.1==w)&&(((h.fa k).length==1)&&((!((h.at k).1==s)&&(ln (esC rs) (h.at k).1).contains s)&&eY p pq))):=by rw[<-Q];unfold gF;rw[G,hF.g3 _ _ T hp,LJ]
  refine eP (lX (zo C E (sl s1 (.da (B:=AnyB) (d:=.bool (!((h.at k).1==s)&&(ln (esC rs) (h.at k).1).contains s)) rfl .nil)) (b:=g k) (by rw[L5];exact qP (aP (bZ (aH (aC rfl) cP.e (vE _ _) rfl).e (aC rfl) (eq_str _ _)).e rfl) λ_=>qP (aP (bZ (bM (aD (iR (aC rfl) cP.e (jX _ _)) aN) rfl rfl).e aJ.e (LX _)).e rfl) λ_=>qP (aP (aC rfl) rfl) λ_=>aP (bW (aD (aC rfl) (aD (U8 rfl (G▸mR pq)).e aN)) rfl (G▸LI hp T) rfl).e rfl) λJ A=>?_));have i:=s1.trans A;cases j:g k with
  |false=>refine fU Z (fU Z (nx _ J ⟨rfl,λb o h1 h2 e=>i b o (fr b o h1 h2 e),?_,_,_,rfl⟩));rw[L1,j];show Les _ _ _ _ _ {h with ft:=fQ h.ft (_++[]) P};rw[dw,I];exact u.same i
  |true=>
   have t2:=u.same i;obtain⟨f,v,e1,e2,_,_⟩:=t2.ent k d hd;obtain⟨ws,e3,rws⟩:=t2.dM.2 k f e1;refine eP (rD (show wE Z (.uT (.raw 7) (.aX (.str "fate"))) (pJ O b n vc vw vm [o6,Z9 (.ref d),Z9 (.bl _)]) J _ from⟨.ref d,rfl,jC Bs λH3 s3=>⟨d,.ref f,rfl,LZ (h.at k) v f▸DGet.k (k:=.inr "fate") (s3 _ _ e2),.inl ⟨rfl,_,SqL.of (s3 _ _ e3)⟩,lU (aI (jC Be λH4 s4=>aI (aF rfl (aI (dJ C E (sl (i.trans (s3.trans s4)) (dZ _)) (bM (aD (aC rfl) aN) (by rw[mQ,vD]) rfl).e λvl H5 s5 r5=>bJ ⟨by rw[cb];simp,λx hx=>?_⟩)))))⟩⟩));cases r5;have m:=(s3.trans (s4.trans s5)).trans (Same.upd (o:=.tup [.str "fell",.int n,.int h.en.length]) hx);have e6:=m _ _ e3;have zq:(h.fa k).length=1:=by rw[L5]at j;simp at j;exact j.2.1
   refine⟨f,ws,.ref x,rfl,rfl,e6,?_,fU Z (fU Z (nx _ _ ⟨rfl,λb o h1 h2 e=>?_,?_,_,_,rfl⟩))⟩
   .have :=rws.length;rw[U,zq]at this;rw[this];decide
   .rw[aG (λ(z:b=f)=>h2 (z▸aq e1))];exact m b o (i b o (fr b o h1 h2 e))
   .rw[L1,j];show Les _ _ _ _ _ {h with ft:=fQ h.ft (_++[k]) P};rw[KH,I];exact(t2.same m).iQ e1 e6 (rws.same m λ_ z=>z) (htd▸eO hx (Reps.cons ⟨rfl,Be⟩ (Reps.cons rfl (Reps.cons rfl rfl))))
 .obtain⟨rfl,fr,u,M,F,rfl⟩:=z;rw[ae,t.dl]at u;exact q M F c fr u
theorem Vb (e:En)(v:V)(f:Addr):um [] (kvE e v f)=kvE e v f:=by
 have a:("court":Str)≠"word":=by decide
 have b:("court":Str)≠"ruling":=by decide
 have c:("court":Str)≠"fate":=by decide
 have d:("word":Str)≠"ruling":=by decide
 have g:("word":Str)≠"fate":=by decide
 have h:("ruling":Str)≠"fate":=by decide
 unfold um kvE;simp[putK,a,b,c,d,g,h]
def spEl (φ:dN)(K:Z5):Sp:=λvs H Q _=>∃vr a n vc vw vm ds fs h rs s w p B,vs=[vr,.ref a,.int n,vc,vw,vm]/\(nmC rs).Nodup/\h.es=esC rs/\Hok φ h/\h.en.length<900/\Les K H a ds fs h/\Rep K H B vr (.list (rs.map cwD))/\Rep K H B vc (.str s)/\Rep K H B vw (.str w)/\Rep K H B vm (mr p)/\GR p/\z1j h.es s=Z7/\(∀b,B (Z9 b)->b≠a/\b∉fs)/\eT φ K H a ds fs h n s w (mr p) Q
theorem zqa (l:Z.Κ=[])(m:Z.Φ=Φe)(hF:PhL φ)(nd:(nmC rs).Nodup)(I:h.es=esC rs)(ok:Hok φ h)(S:h.en.length<900)(t:Les Z.K H a F fs h)(rr:Rep Z.K H B vr (.list (rs.map cwD)))(rc:Rep Z.K H B vc (.str s))(u:Rep Z.K H B vw (.str w))(rm:Rep Z.K H B A (mr p))(hp:GR p)(hc:z1j h.es s=Z7)(W:∀b,B (Z9 b)->b≠a/\b∉fs)
  (q:eT φ Z.K H a F fs h n s w (mr p) D0.rt):wS Z L2k.el D0 (pJ vr a n vc vw A [Z8,Z8,Z8]) H:=by
 refine eP (zlf l m hF nd I ok S t rr rc u rm hp hc (λk hk=>?_) λX o6 H1 s1=>?_)
 .unfold eT at q;rw[hk]at q;exact q
 unfold eT at q;rw[X]at q;have up:∀{v:V} {d:D},Rep Z.K H B v d->Rep Z.K H1 B v d:=λr=>r.same s1 λ_ z=>z;refine eP (zl2 l m hF nd I ok S (t.same s1) (up rr) (up rc) (up u) (up rm) hp W λo7 o8 T f2 J=>?_);have M:=λb o i U e=>f2 b o i U (s1 b o e);obtain⟨rfl,hs⟩:=rc;obtain⟨rfl,hw⟩:=u
 have new:∀{b:Addr},T b=Z8->H b=none:=λ{b} e=>by
  cases eb:H b with
  |none=>rfl
  |some o=>
   by_cases i:b=a\/b∈F\/b∈fs
   .exact absurd e (J.there i)
   .rw[M b o (λz=>i (.inl z)) (λz=>i (.inr (.inr z))) eb]at e;cases e
 generalize hL:fll φ h s w (mr p)=L at *
 refine eP (rD (aF rfl ⟨.inl ⟨rfl,_,SqL.of J.lst⟩,λd hd=>?_⟩));have d1:Same T (upd T d (.dK [])):=Same.upd hd;refine jC LM λH3 s3=>aF rfl (jC LN λH4 s4=>aF rfl (jC LO λH5 s5=>aF rfl (jC Bs λH6 s6=>wq (aI (lU (aI (jC Bf λC s7=>aI (aF rfl (aI (aF rfl (bJ ⟨by rw[cb];simp,λx hx=>bJ ⟨by rw[cb];simp,λf hf=>?_⟩⟩)))))))))));have E:=s3.trans (s4.trans (s5.trans (s6.trans s7)));have x7:Same C (upd C x (.tup [.str "entered",.int n,.str s])):=Same.upd hx;have f7:Same (upd C x (.tup [.str "entered",.int n,.str s])) (upd (upd C x (.tup [.str "entered",.int n,.str s])) f (.lst [.ref x])):=Same.upd hf;have rx:Rep Z.K (upd C x (.tup [.str "entered",.int n,.str s])) NoB (.ref x) (Bc n s):=eO hx (Reps.cons ⟨rfl,Bf⟩ (Reps.cons rfl (Reps.cons ⟨rfl,hs⟩ rfl)));have N:=E.trans (x7.trans f7);have Vc:upd (upd C x (.tup [.str "entered",.int n,.str s])) f (.lst [.ref x]) f=Z9 (.lst [.ref x]):=bF;have nf:=(d1.trans (E.trans x7)).none hf;have Vd:f≠d:=λz=>by have:=(E.trans x7) d _ bF;rw[<-z,hf]at this;cases this
 generalize upd (upd C x (.tup [.str "entered",.int n,.str s])) f (.lst [.ref x])=G at *
 have O:=N _ _ bF;refine⟨O,kvE (s,w,mr p) A f,rfl,by show 4<=15;decide,?_⟩;rw[Vb];have ne:∀{b:Addr},T b≠Z8->b≠d:=λh z=>h (z▸hd);have k9:∀b o,b≠d->G b=Z9 o->upd G d (.dK (kvE (s,w,mr p) A f)) b=Z9 o:=λb o S e=>by rw[aG S];exact e
 have P:=λb o e=>k9 b o (ne (by rw[e];simp)) ((d1.trans N) b o e);have Q:∀b o,G b=Z9 o->Fix o->upd G d (.dK (kvE (s,w,mr p) A f)) b=Z9 o:=λb o e z=>k9 b o (λy=>by subst y;rw[O]at e;cases e;exact z) e;have Ve:upd G d (.dK (kvE (s,w,mr p) A f)) d=Z9 (.dK (kvE (s,w,mr p) A f)):=bF;generalize upd G d (.dK (kvE (s,w,mr p) A f))=H9 at *
 have t9:=J.same P;have j:=t9.put1 (g:=[Bc n s]) (by rw[Fb,ok.len]) Ve ((Rep.hU (λb o e z=>M b o (λy=>t.cT (.inl y) e z) (λy=>t.cT (.inr y) e z) e) _ (mR p) rm).same P λ_ z=>z) hs hw (k9 f _ Vd Vc) (Reps.cons (Rep.keep (λb o e z=>Q b o e (z.resolve_left id)) (λ_ z=>z) _ (rx.same f7 λ_ z=>z)) rfl) (λz=>J.there (.inr (.inr z)) nf) (λz=>J.there (.inl z) nf);have j:Les Z.K (upd H9 a (.lst (F.map V.ref++[.ref d]))) a (F++[d]) (fs++[f]) (h.put n s w (mr p) L):=⟨j.1,j.2,j.3,j.4,j.5,j.6⟩;refine⟨a,_,.ref d,rfl,rfl,t9.lst,by rw[ae,t.dl,cb];omega,?_⟩;have fr:FrmL a fs H (upd H9 a (.lst (F.map V.ref++[.ref d]))):=λb o i U e=>by rw[aG i];simp_all
 have Vf:=Rep.keep (λb o e z=>by
  rcases z with z|z
  .exact fr b o (W b z).1 (W b z).2 e
  .exact fr b o (λy=>t.cT (.inl y) e z) (λy=>t.cT (.inr y) e z) e) (λ_ z=>z) _ rr
 generalize upd H9 a (.lst (F.map V.ref++[.ref d]))=L6 at *
 refine tM (lU (aI (jC Bk λKU R=>aI (dJ l m (ρ:=Z9 (.od,.list (rs.map cwD))::Z9 (.od,.list (dY (h.put n s w (mr p) L)))::ay 7 Z8) ((Sl.da Vf (.da j.rep (dZ _))).same R) (d:=.int ((h.en.length+1:Nat)-1:Int)) (bK (bM (d:=.int (h.en.length+1:Nat)) (aD (aC rfl) aN) (by rw[mQ,vD];show Res.ok (ZU ((h.en++[_]).length:Int))=_;rw[aw];rfl) rfl).e aJ.e rfl rfl).e λvl Xk lW Vg=>bJ ⟨by rw[cb];simp,λy hy=>?_⟩))));cases Vg;rw[show((h.en.length+1:Nat)-1:Int)=h.en.length by omega];have c:=R.trans lW;refine q _ d f _ (λb o i U e=>Same.upd hy b o (c b o (fr b o i U e))) (new hd) (new nf) (j.same (c.trans (Same.upd hy))) (eO hy (Reps.cons ⟨rfl,Bk⟩ (Reps.cons rfl rfl)))
def oQ:D->Int
 |.tuple [_,.int n,_]=>n
 |_=>0
def wH (f:List D)(d:Int):Bool:=decide (oQ (f.getD 0 .none)<=d)&&((f.length==1)||decide (d<oQ (f.getD 1 .none)))
theorem Bt (h:vb r=Z7):∃s n x,r=.tuple [.str s,.int n,x]/\imm x=true:=(ve h).1
theorem zr (h:oJ f):(∃s n x,f=[.tuple [.str s,.int n,x]])\/∃s n x d e g,f=[.tuple [.str s,.int n,x],.tuple [.str d,.int e,g]]:=by
 obtain⟨i,j,c⟩:=h;rcases f with _|⟨a,_|⟨b,_|⟨_,_⟩⟩⟩
 .simp at i
 .obtain⟨s,n,x,rfl,_⟩:=Bt (c a (.head _));exact .inl ⟨_,_,_,rfl⟩
 .obtain⟨s,n,x,rfl,_⟩:=Bt (c a (.head _));obtain⟨d,e,g,rfl,_⟩:=Bt (c b (.tail _ (.head _)));exact .inr ⟨_,_,_,_,_,_,rfl⟩
 .simp at j
theorem Vh (h:oJ f)(d:Int):zg [.list f,.int d]=.ok (.fr,.bool (wH f d)):=by
 refine cU (pE (aP (yB (aC rfl)).e rfl) rfl ?_);rcases zr h with⟨s,n,x,rfl⟩|⟨s,n,x,s',n',x',rfl⟩
 .exact bO (cB (v_and (bZ (aH (iR (aC rfl) aJ.e rfl) aJ.e rfl rfl).e (aC rfl) rfl).e λ_=>v_or (bZ (bM (aD (aC rfl) aN) rfl rfl).e aJ.e rfl).e λz=>by cases z))
 .exact bO (cB (v_and (bZ (aH (iR (aC rfl) aJ.e rfl) aJ.e rfl rfl).e (aC rfl) rfl).e λ_=>v_or (bZ (bM (aD (aC rfl) aN) rfl rfl).e aJ.e rfl).e λ_=>bZ (aH (iR (aC rfl) aJ.e rfl) aJ.e rfl rfl).e (aC rfl) rfl))
def kW (p:Bool×P×P×P)(f a:P):Bool:=bi p.1 p.2.1 p.2.2.1 p.2.2.2 f a
structure CS (f a:P):Prop where
 pf:PK f
 pa:PK a
 lf:f.length<=10
 la:a.length<=10
theorem Ge {p:Bool×P×P×P}{f a:P}(b:GR p)(c:CS f a):gD [mr p,cs2 f a]=.ok (.fr,.bool (kW p f a)):=FO b.f b.a c.pf c.pa (by have:=b.l.2.2;omega) (by have:=c.lf;omega) (by have:=c.la;omega)
theorem Vi (b:Bool):FD [.str (sd b)]=.ok (.fr,.str (sd (!b))):=by cases b<;>rfl
theorem Vj {p:Bool×P×P×P}{f a:P}(b:GR p)(c:CS f a):wD [mr p,cs2 f a]=.ok (.fr,.bool (kW p f a)):=by unfold wD;refine cU ?_;unfold FF;refine cZ (oF (bW (aD (aH (d:=.str (sd p.1)) (aC rfl) aJ.e rfl rfl).e aN) rfl (Vi p.1) rfl)) (bO (cB ?_));show Vv _ _ _ _ (.bool (wi p.2.2.2 (own p.1 f a)&&wi (kU p.1 f a) (kU p.1 p.2.1 p.2.2.1)));rw[<-Bq,<-Bq];exact v_and (bW (aD (aH (d:=pk p.2.2.2) (aC rfl) aJ.e rfl (fM _)).e (aD (eX (aD (aC rfl) (aD (aH (d:=.str (sd p.1)) (aC rfl) aJ.e rfl rfl).e aN)) rfl (zm _ _ _)) aN)) rfl (Ga (vv c.pf c.pa)) rfl).e λ_=>bW (aD (eX (aD (aC rfl) (aD (aC rfl) aN)) rfl (zm _ _ _)) (aD (eX (aD (aH (d:=cs2 p.2.1 p.2.2.1) (aC rfl) aJ.e rfl (rJ _ _)).e (aD (aC rfl) aN)) rfl (zm _ _ _)) aN)) rfl (Ga (vv b.f b.a)) rfl
def rN:D->D
 |.tuple [_,s,_]=>s
 |_=>.none
def oR (ps:List (Bool×P×P×P))(f a:P):D:=match ps.findIdx? λp=>kW p f a with
 |none=>.none
 |some k=>.tuple [rN (mr (ps.getD k (Z7,[],[],[]))),.int k]
theorem Vk (hp:∀p∈ps,GR p)(c:CS f a)(hl:ps.length<=1000):zb1 [.list (ps.map mr),cs2 f a]=.ok (.fr,oR ps f a):=by
 refine cU ?_
 let Q:Res Out->Prop:=λz=>z=.ok (.rt .fr (oR ps f a))
 show Q _;refine zfr (LF rfl hl) (λpre ρ=>(∀y∈pre,kW y.1 f a=Z6)/\∃u2 u3,ρ=[Z9 (.od,.list (ps.map mr)),Z9 (.od,cs2 f a),u2,u3]) ⟨(λ_ h=>by cases h),Z8,Z8,rfl⟩ ?_ ?_
 .rintro pre x post ρ hx ⟨hn,u2,u3,rfl⟩
  have hz:=LB (by rw[hx];exact bf _ bg);have hm:=aq hz;have hs:ps=pre.map (·.1)++x.1::post.map (·.1):=by have:=congrArg (lj (·.1)) hx;rw[pw,cj,br]at this;exact this
  have Vl:x.2=pre.length:=by
   have:=congrArg (λl:List ((Bool×P×P×P)×Nat)=>l[pre.length]?) hx;simp only[b8 (ak _),fz,nh,pd]at this;cases hh:ps[pre.length]? with
   |none=>rw[hh]at this;cases this
   |some y=>rw[hh]at this;cases this;simp
  refine⟨_,AM rfl (mR x.1),?_⟩;have ht:Tt [] [gD] (.tv (.call 0 "binds" (.cons (.var 3) (.cons (.var 1) .nil)))) [Z9 (.od,.list (ps.map mr)),Z9 (.od,cs2 f a),Z9 (.al,.int x.2),Z9 (.al,mr x.1)] (kW x.1 f a):=aP (bW (aD (aC rfl) (aD (aC rfl) aN)) rfl (Ge (hp _ hm) c) rfl).e rfl;cases ha:kW x.1 f a with
  |true=>
   refine .inr ⟨.fr,.tuple [.str (sd x.1.1),.int x.2],bO (jU ht (λ_=>bO (cB (jz (bG (aH (aC rfl) aJ.e rfl rfl) (bG (v_var rfl rfl) eB))))) λz=>by rw[ha]at z;cases z),?_⟩;show _=_;have e:(ps.findIdx? λp=>kW p f a)=Z9 x.2:=by rw[hs,LG (G:=λp=>kW p f a) (λy hy=>?_) ha,ae,Vl];obtain⟨z,hz,rfl⟩:=bz.mp hy;exact hn z hz
   unfold oR;rw[e];show _=Res.ok (Out.rt .fr (.tuple [rN (mr (ps.getD x.2 (Z7,[],[],[]))),.int x.2]));rw[aa,hz];rfl
  |false=>exact .inl ⟨_,cZ (jU ht (λz=>by rw[ha]at z;cases z) λ_=>gA) gA,(λy hy=>by
   rcases bu.mp hy with z|z
   .exact hn y z
   .rw[az.mp z];exact ha),_,_,rfl⟩
 .rintro ρ ⟨hn,u2,u3,rfl⟩
  have e:(ps.findIdx? λp=>kW p f a)=none:=ma.mpr λp hp=>by obtain⟨k,hk⟩:=ce.mp hp;exact hn (p,k) (i9.mpr hk)
  show aV _ _ _ _=_;unfold oR;rw[e];exact bO (cB yA)
def mC (h:Hd)(ks:List Nat)(c:D):D:=match ks.find? λk=>(match gD [(h.at k).2.2,c]with|.ok (_,.bool b)=>b|_=>Z6)with
 |none=>.none
 |some k=>.tuple [rN (h.at k).2.2,.int k]
theorem L8 {ks:List Nat}(v:∀k∈ks,k<h.en.length/\∃q,GR q/\(h.at k).2.2=mr q)(c:CS f a):FJ [.list (dY h),.list (z0o ks),cs2 f a]=.ok (.fr,mC h ks (cs2 f a)):=by
 refine cU ?_
 let g:Nat->Bool:=λk=>match gD [(h.at k).2.2,cs2 f a]with|.ok (_,.bool b)=>b|_=>Z6
 let Q:Res Out->Prop:=λz=>z=.ok (.rt .fr (mC h ks (cs2 f a)))
 show Q _;refine zfr (Ey rfl rfl rfl) (λpre l=>(∀y∈pre,g y=Z6)/\∃m,l=[Z9 (.od,.list (dY h)),Z9 (.od,.list (z0o ks)),Z9 (.od,cs2 f a),m]) ⟨nofun,Z8,rfl⟩ ?_ ?_
 .rintro pre k o l p ⟨hn,m,rfl⟩
  obtain⟨n,q,r,d⟩:=v k (p▸bf _ bg);have s:g k=kW q f a:=by show(match gD [(h.at k).2.2,cs2 f a]with|.ok (_,.bool b)=>b|_=>Z6)=_;rw[d,Ge r c]
  refine⟨_,tO rfl,?_⟩;have t:Vv [] [wD] (.ix (.ix (.var 0) (.var 3)) (.str "ruling")) [Z9 (.od,.list (dY h)),Z9 (.od,.list (z0o ks)),Z9 (.od,cs2 f a),Z9 (.al,.int k)] (h.at k).2.2:=aH (iR (aC rfl) (aC rfl) (tQ n)) cP.e (vF _ _) (d▸mR q);have u:Tt [] [wD] (.tv (.call 0 "_law_binds" (.cons (.ix (.ix (.var 0) (.var 3)) (.str "ruling")) (.cons (.var 2) .nil)))) [Z9 (.od,.list (dY h)),Z9 (.od,.list (z0o ks)),Z9 (.od,cs2 f a),Z9 (.al,.int k)] (kW q f a):=aP (bW (aD t.e (aD (aC rfl) aN)) rfl (d▸Vj r c) rfl).e rfl;cases j:kW q f a with
  |true=>
   refine .inr ⟨.fr,.tuple [.str (sd q.1),.int k],bO (jU u (λ_=>bO (cB (jz (bG (aH t.e aJ.e (by rw[d];rfl) rfl) (bG (v_var rfl rfl) eB))))) λz=>by rw[j]at z;cases z),?_⟩;have e:ks.find? g=Z9 k:=by rw[p,kh,i8.mpr λy i=>by rw[hn y i];decide,i7 (by rw[s,j])];rfl
   show _=Res.ok (Out.rt .fr (match ks.find? g with|none=>.none|some k=>.tuple [rN (h.at k).2.2,.int k]));rw[e];show _=Res.ok (Out.rt .fr (.tuple [rN (h.at k).2.2,.int k]));rw[d];rfl
  |false=>exact .inl ⟨_,cZ (jU u (λz=>by rw[j]at z;cases z) λ_=>gA) gA,(λy i=>by
   rcases bu.mp i with z|z
   .exact hn y z
   .rw[az.mp z,s];exact j),_,rfl⟩
 .rintro l ⟨hn,m,rfl⟩
  show aV _ _ _ _=Res.ok (Out.rt .fr (match ks.find? g with|none=>.none|some k=>.tuple [rN (h.at k).2.2,.int k]));rw[i8.mpr λy i=>by rw[hn y i];decide];exact bO (cB yA)
theorem Vm (h:d=.none\/∃s k,d=.tuple [.str s,.int k]):z95 [d,d]=.ok (.fr,.bool Z7):=by
 rcases h with rfl|⟨s,k,rfl⟩
 .rfl
 .unfold z95;exact cU (pE (aP (yB (aC rfl)).e rfl) rfl (pE (oE (mM (k:=Z7) (aP (AI (aC rfl)).e rfl)) λ_=>oE (k:=Z6) (aP (bZ (bM (aD (aC rfl) aN) rfl rfl).e aJ.e rfl).e rfl) λ_=>oE (mM (k:=Z7) (aP (AI (aH (aC rfl) aJ.e rfl rfl).e).e rfl)) λ_=>mM (aP (bW (aD (aH (aC rfl) aJ.e rfl rfl).e aN) rfl (UX k) rfl).e rfl)) rfl (bO (cB (bZ (aC rfl) (aC rfl) (eq_self rfl))))))
theorem Vn (hf:oJ f)(hi:ρ[i]?=Z9 (Z9 (.od,cE e f)))(hj:ρ[j]?=Z9 (Z9 (.od,.int d))):∃zs,aL [] Φ (.comp 1 [j] ["_law_row","_law_date"] (.nm 0) (.tv (.sl (.ix (.var i) (.str "fate")) (.tv (.int 1)) .nil)) (.tv (.cmp .LtE (.ix (.var 0) (.int 1)) (.var 1))) (.var 0)) ρ=.ok (.fr,.list zs)/\(∀z∈zs,z∈f)/\zs.isEmpty=((f.length==1)||decide (d<oQ (f.getD 1 .none))):=by
 have hc:cut f (Z9 1) Z8=f.drop 1:=by rcases zr hf with⟨s,n,x,rfl⟩|⟨s,n,x,s',n',x',rfl⟩<;>rfl
 obtain⟨g,es⟩:=rK (Κ:=[]) (Φ:=Φ) (iR (aC hi) cP.e (jX e f)) (uR aJ.e) uG (show pU (.list f) (Z9 1) Z8=.ok (.list (f.drop 1)) by show Res.ok (PyData.list (cut f (Z9 1) Z8))=_;rw[hc]);have hr:fI (ρ.getD j Z8)=Z9 (.od,.int d):=by rw[aa,hj];rfl
 have row:∀x∈f.drop 1,imm x=Z7/\dQ x (.int 1)=.ok (.int (oQ x)):=λx hx=>by obtain⟨s,n,y,rfl,hy⟩:=Bt (hf.2.2 x (lg hx));exact⟨by show imms [.str s,.int n,y]=Z7;rw[imms,imms,imms,hy];rfl,rfl⟩
 have ec:=z2n (nt:=1) (js:=[j]) (N':=["_law_row","_law_date"]) (it:=.tv (.sl (.ix (.var i) (.str "fate")) (.tv (.int 1)) .nil)) (cond:=.tv (.cmp .LtE (.ix (.var 0) (.int 1)) (.var 1))) (elt:=.var 0) (λx=>decide (oQ x<=d)) (λx=>x) (fK es rfl) (se _).symm (λx=>[Z9 (.al,x),Z9 (.od,.int d)]) (λx hx=>by show fD (.nm 0) _ ([Z8]++[fI (ρ.getD j Z8)])=_;rw[hr];exact tO (row x hx).1) (λx hx=>aP (bZ (aH (aC rfl) aJ.e (row x hx).2 rfl).e (aC rfl) rfl).e rfl) λx hx _=>v_var rfl (row x hx).1;refine⟨_,ec,λx hx=>?_,?_⟩
 .obtain⟨y,hy,rfl⟩:=bz.mp hx;exact lg (dn.mp hy).1
 .rw[jm];rcases zr hf with⟨s,n,x,rfl⟩|⟨s,n,x,s',n',x',rfl⟩
  .rfl
  .show(List.filter (λx=>decide (oQ x<=d)) [.tuple [.str s',.int n',x']]).isEmpty=(Z6||decide (d<n'));by_cases hd:n'<=d
   .rw[gj (by exact ua hd),ub (by omega)];rfl
   .rw[gk (by show ¬decide (n'<=d)=Z7;simpa using hd),ua (by omega)];rfl
theorem L9 (q:dN)(nd:(nmC rs).Nodup)(J:aR (esC rs) 999 s=Z7)(v:h.es=esC rs)(M:h.en.length<1000)(K:h.ft.length=h.en.length)(hf:∀f∈h.ft,oJ f)(A:∀f,oJ f->q.sd f (.int d)=wH f d):Bp [.list (rs.map cwD),.list (dY h),.str s,.str w,.int d]=.ok (.fr,.list (z0o (stg q h s w (.int d)))):=by
 refine cU ?_
 let Q:Res Out->Prop:=λz=>z=.ok (.rt .fr (.list (z0o (stg q h s w (.int d)))))
 show Q _;have a:∀k,k<h.en.length->oJ (h.fa k):=λk c=>hf _ (aq (Hd.fP (K▸c)))
 let p:Nat->Bool:=λk=>((h.at k).2.1==w)&&((ln (esC rs) s).contains (h.at k).1&&wH (h.fa k) d)
 have B:stg q h s w (.int d)=(bw h.en.length).filter p:=by unfold stg lV;rw[lx,v];refine km λk c=>?_;rw[A _ (a k (dq.mp c))];show(_&&(_&&_))=(_&&(_&&_));cases(h.at k).2.1==w<;>cases(ln (esC rs) s).contains (h.at k).1<;>cases wH (h.fa k) d<;>rfl
 refine cQ (kP (AH (aD (aC rfl) (aD (aC rfl) aN)) rfl (Br nd J)) (vy (λ_=>rfl) _)) (cQ (kP (kO eB) rfl) ?_);refine q_nm (AL (aD (bM (aD (aC rfl) aN) (by rw[mQ,vD]) rfl).e aN) (by rw[sW (by omega) (by omega)])) (λ_=>rfl) (λpre r=>∃C m g,r=[Z9 (.od,.list (rs.map cwD)),Z9 (.od,.list (dY h)),Z9 (.od,.str s),Z9 (.od,.str w),Z9 (.od,.int d),Z9 (.fr,.list ((ln (esC rs) s).map .str)),Z9 (.fr,.list (z0o (pre.filter p))),C,m,g]) ⟨Z8,Z8,Z8,rfl⟩ ?_ ?_
 .rintro pre k E r l ⟨C,m,g,rfl⟩
  have c:=LL l;have o:pre.length<1000:=by have:=congrArg jh l;rw[cx,aw]at this;omega
  let b:Option GD->Option GD->Rho:=λx y=>[Z9 (.od,.list (rs.map cwD)),Z9 (.od,.list (dY h)),Z9 (.od,.str s),Z9 (.od,.str w),Z9 (.od,.int d),Z9 (.fr,.list ((ln (esC rs) s).map .str)),Z9 (.fr,.list (z0o (pre.filter p))),Z9 (.al,.int k),x,y]
  have F:aV [] [pH] (.asg (.nm 8) (.ix (.var 1) (.var 7))) (b m g)=.ok (.nx (b (Z9 (.od,cE (h.at k) (h.fa k))) g)):=by show((dQ (.list (dY h)) (.int k)>>=λd=>Res.ok (gJ d (if imm (.list (dY h))=Z7 then .fr else .od),d))>>=λx=>Res.ok (Out.nx ((b m g).set 8 (Z9 (z1o x)))))=_;rw[tQ c];rfl
  obtain⟨D,G,H,L⟩:=Vn (ρ:=b (Z9 (.od,cE (h.at k) (h.fa k))) g) (i:=8) (j:=4) (a k c) rfl rfl;have fd:dQ (.list (h.fa k)) (.int 0)=.ok ((h.fa k).getD 0 .none)/\dQ ((h.fa k).getD 0 .none) (.int 1)=.ok (.int (oQ ((h.fa k).getD 0 .none))):=by rcases zr (a k c)with⟨s,n,x,e⟩|⟨s,n,x,N,O,P,e⟩<;>rw[e]<;>exact⟨rfl,rfl⟩
  have t:Tt [] [pH] (.and (.tv (.cmp .Eq (.ix (.var 8) (.str "word")) (.var 3))) (.and (.tv (.cmp .In (.ix (.var 8) (.str "court")) (.var 5))) (.and (.tv (.cmp .LtE (.ix (.ix (.ix (.var 8) (.str "fate")) (.int 0)) (.int 1)) (.var 4))) (.tv (.cmp .Eq (.var 9) (.lst .nil)))))) (b (Z9 (.od,cE (h.at k) (h.fa k))) (Z9 (.fr,.list D))) (p k):=qP (aP (bZ (aH (aC rfl) cP.e (vE _ _) rfl).e (aC rfl) (eq_str _ _)).e rfl) λ_=>qP (aP (bZ (k:=(ln (esC rs) s).contains (h.at k).1) (aH (aC rfl) cP.e (oP _ _) rfl).e (aC rfl) (wu _ _)).e rfl) λ_=>qP (aP (bZ (k:=decide (oQ ((h.fa k).getD 0 .none)<=d)) (aH (iR (iR (aC rfl) cP.e (jX _ _)) aJ.e fd.1) aJ.e fd.2 rfl).e (aC rfl) rfl).e rfl) λ_=>aP (bZ (k:=((h.fa k).length==1)||decide (d<oQ ((h.fa k).getD 1 .none))) (aC rfl) (Ev.of (kO eB)) (by rw[FK _ (pA.mpr λx l=>pA.mp (E4 (a k c)) x (H x l)),L])).e rfl;have I:=pS.mpr λx l=>pS.mp (Kw (a k c)) x (H x l);cases u:p k with
  |true=>
   rw[u]at t;refine⟨_,cZ F (cZ (kP G I) (cZ (jU t (λ_=>cZ (AK (v_var rfl rfl) rfl ?_) gA) λz=>by cases z) gA)),Z9 (.al,.int k),Z9 (.od,cE (h.at k) (h.fa k)),Z9 (.fr,.list D),?_⟩
   .unfold z0o;rw[ae];exact j0 (cn _ _) o
   .rw[gz,gj u];unfold z0o;rw[cj];rfl
  |false=>rw[u]at t;refine⟨_,cZ F (cZ (kP G I) (cZ (jU t nofun λ_=>gA) gA)),Z9 (.al,.int k),Z9 (.od,cE (h.at k) (h.fa k)),Z9 (.fr,.list D),?_⟩;rw[gz,gk (by rw[u];decide),om,dw];rfl
 .rintro r ⟨C,m,g,rfl⟩
  show _=_;rw[B];exact bO (z5i rfl)
namespace L4
def ov:WS:=.seq (.exp (.cC (.raw 0) 0 (.cons (.raw 1) (.cons (.raw 2) .nil))))
 (.seq (.exp (.cC (.raw 0) 1 (.cons (.raw 3) .nil)))
 (.seq (.bN (.not (.jV (.gO 0 (.cons (.ix Hs.FA (.raw 3)) (.cons (.aX .aO) .nil))))) (.seq (.jI "NoRuling") .nil) .nil)
 (.seq (.bN (.tc .NotIn (.raw 2) (.cC Hs.CO 2 (.cons (.ix (.ix Hs.EN (.raw 3)) (.aX (.int 0))) .nil))) (.seq (.jI "NotYours") .nil) .nil)
 (.seq (.app (.qQ Hs.FA (.raw 3)) (.tup (.cons (.aX (.str "overruled")) (.cons (.raw 1) (.cons (.raw 2) .nil)))))
 (.seq (.fld (.raw 0) "last_day" (.raw 1)) .nil)))))
def bo:WS:=.seq (.asg 5 (.cC (.raw 0) 0 (.cons (.raw 1) (.cons (.raw 2) (.cons (.raw 4) .nil)))))
 (.seq (.asg 6 (.gO 0 (.cons (.cC (.raw 0) 1 (.cons (.raw 5) .nil)) (.cons (.raw 3) .nil))))
 (.seq (.ret (.yE (.ti Z6 (.raw 6)) (.aX .aO) (.tup (.cons (.ix (.raw 6) (.aX (.int 0))) (.cons (.ix (.raw 5) (.ix (.raw 6) (.aX (.int 1)))) .nil))))) .nil))
end L4
theorem Bu:ZW "overruled"=true:=by decide+kernel
def zt (n:Int)(s:Str):D:=.tuple [.str "overruled",.int n,.str s]
def _root_.Mi.Hd.oS (h:Hd)(n:Int)(s:Str)(k:Nat):Hd:={h with ft:=h.ft.set k (h.fa k++[zt n s]),ld:=Z9 n}
theorem Vo (a:Str)(xs:List Str):cmpD .NotIn (.str a) (.list (xs.map .str))=.ok (!xs.contains a):=by have:=wu a xs;show(cmpD .In (.str a) (.list (xs.map .str))>>=λb=>Res.ok (!b))=_;rw[this];rfl
def spOv (φ:dN)(K:Z5)(HC CC:Addr):Sp:=λvs H Q _=>∃x A h n vc s k B,vs=[.ref x,.int n,vc,.int (k:Nat)]/\Hou K HC CC H x A h/\Hok φ h/\k<h.en.length/\(h.fa k).length=1/\Rep K H B vc (.str s)/\z1j h.es s=Z7/\(ln h.es (h.at k).1).contains s=Z7/\late h.ld n=Z6/\∀H',Frm1 A x H H'->Hou K HC CC H' x A (h.oS n s k)->Q .aO H'
theorem zpc (u:HouK Z.K i)(m0:Z.me[0]?=Z9 (i,("check_deed":Str),spCd Z.K i w Z.mg))(m1:Z.me[1]?=Z9 (i,("check_number":Str),spCn Z.K i w Z.mg))(m2:Z.me[2]?=Z9 (w,("line":Str),z5l Z.K w Z.mg))(hz:Z.fn[0]?=Z9 sp)(hs:StS I Z.K sp)(t:Hou Z.K i w H x A h)(ok:Hok I h)(J:k<h.en.length)(hf:(h.fa k).length=1)(rc:Rep Z.K H B v (.str s))(hc:z1j h.es s=Z7)(L:(ln h.es (h.at k).1).contains s=Z7)(M:late h.ld n=Z6)
  (q:∀N,Frm1 A x H N->Hou Z.K i w N x A (h.oS n s k)->∀σ,D0.nx σ N):wS Z L4.ov D0 [Z9 (.ref x),Z9 (.int n),Z9 v,Z9 (.int k)] H:=by
 obtain⟨m,rfl,hm⟩:=hs;obtain⟨g1,g2⟩:=au.mp hc;obtain⟨fs,i1,i2⟩:=t.bQ;refine fE m0 (aF rfl ⟨x,A.dx,fs,rfl,i1,i2 _ (by decide) (by decide) (by decide) (by decide),aI (aF rfl (aI (aF rfl (bJ ⟨x,A,h,v,.str s,n,B,rfl,t,rc,?_⟩))))⟩);rw[tw g1];refine⟨⟨s,rfl,g2⟩,?_⟩;rw[tx (by rw[M];decide)];intro H1 O;obtain⟨P,j1,j2⟩:=(t.same O).bQ;refine fE m1 (aF rfl ⟨x,A.dx,P,rfl,j1,j2 _ (by decide) (by decide) (by decide) (by decide),aI (aF rfl (bJ ⟨x,A,h,k,rfl,t.same O,ok.big,?_⟩))⟩);rw[tw (by unfold pF;simp;omega)];intro H2 s2;have y:=O.trans s2;have Q:=t.same y;have j:k<h.ft.length:=ok.len▸J;obtain⟨g,R⟩:=hm (h.fa k) .none I.d0 (ok.fo _ (aq (Hd.fP j)));refine eP (lX ?_);refine u1 (tH hz (aI (gP (wt u Q rfl (aF rfl (gC Q.u9 (Ky j) λw3 r3=>aI (A8 λH3 X=>bJ ⟨AnyB,[.list (h.fa k),.none],_,rfl,Reps.cons (r3.same X λ_ z=>z) (Reps.cons rfl rfl),R,λv4 H4 s4 r4=>?_⟩)))))));cases r4;have C:=X.trans s4;have D:=Q.same C;refine⟨_,rfl,?_⟩;rw[I.s0,hf];refine fU Z (eP (lX (wo (aF rfl (fE m2 (A9 u D rfl ⟨A.c,A.dc,_,rfl,D.cH.ins,rfl,aI (gP (gP (tI u D rfl (aF rfl (gC D.hW (Ba J) λw5 r5=>kR λH5 S=>gC (r5.same S λ_ z=>z) rfl λw6 Y=>bJ ⟨A.c,A.dc,A.d,A.kvs,h.es,w6,.str (h.at k).1,AnyB,rfl,(D.same S).cH,Y,?_⟩)))))⟩))))));obtain⟨q1,q2,q3⟩:=ok.gd _ (aq (Hd.get J));obtain⟨g4,g5⟩:=au.mp q3;rw[tw g4];refine⟨(h.at k).1,999,rfl,by decide,g5,λH6 p6 s6 n6 e6=>?_⟩;have l:=y.trans (C.trans (S.trans s6));refine mP (rc.same l λ_ z=>z) (E6 (t.same l) Y.2 e6) (Vo _ _) λH7 s7=>⟨_,rfl,?_⟩;rw[L];have r:=l.trans s7;have E:=t.same r;have a:k<A.as.length:=t.dM.1▸j;obtain⟨F,e1,r1⟩:=E.dM.2 k A.as[k] (ac a);refine fU Z (eP (rD (EZ (wt u E rfl (aF rfl (.inl ⟨A.lf,_,k,.ref A.as[k],rfl,rfl,SqL.of E.kS,?_,.inl ⟨rfl,_,SqL.of e1⟩,lU (aI (jC Bu λT s8=>aI (aF rfl (aI (aF rfl (bJ ⟨by rw[cb];simp,λp hp=>?_⟩))))))⟩))))))
 .have :(A.as.map V.ref)[k]?=Z9 (.ref A.as[k]):=by rw[ao,ac a];rfl
  unfold L2.bT;have U:L2.gE (A.as.map V.ref).length k=Z9 k:=by unfold L2.gE;rw[tw (by omega),tw (by grind),fh]
  rw[U];exact this
 have f:=s8.trans (Same.upd (o:=.tup [.str "overruled",.int n,v]) hp);have e9:=f _ _ e1;have ry:Rep Z.K (upd T p (.tup [.str "overruled",.int n,v])) NoB (.ref p) (zt n s):=eO hp (Reps.cons ⟨rfl,Bu⟩ (Reps.cons rfl (Reps.cons (Rep.aW _ rfl (rc.same (r.trans s8) λ_ z=>z)) rfl)));refine⟨A.as[k],F,.ref p,rfl,rfl,e9,?_,?_⟩
 .have :=r1.length;rw[show F.length=(h.fa k).length from this,hf];decide
 have W:=(E.same f).iQ (ac a) e9 (r1.same f λ_ z=>z) ry;have fA:Frm1 A x H (upd (upd T p (.tup [.str "overruled",.int n,v])) A.as[k] (.lst (F++[.ref p]))):=λb o G e=>by rw[aG λ(z:b=A.as[k])=>G (.inr (.inr (.inr (.inr (z▸fv a)))))];exact f b o (r b o e)
 generalize upd (upd T p (.tup [.str "overruled",.int n,v])) A.as[k] (.lst (F++[.ref p]))=HA at W fA;obtain⟨vd,d1,_⟩:=W.ins;refine eP (wz (aF rfl (aF rfl ⟨x,i,A.dx,_,rfl,d1,u.cls,u.a4,by show 4<1000;decide,fU Z (q _ (λb o G e=>?_) (W.y6 d1) _)⟩)));rw[aG λz=>G (.inl z)];exact fA b o G e
def vH (c r:D):Bool:=match gD [r,c]with|.ok (_,.bool b)=>b|_=>Z6
theorem Vp (b:GR p)(c:CS f a):vH (cs2 f a) (mr p)=kW p f a:=by unfold vH;rw[Ge b c]
theorem Ma {a:Type}{p q:a->Bool}:∀{l:List a},(∀x∈l,p x=q x)->l.findIdx? p=l.findIdx? q
 | [],_=>rfl
 |x::l,h=>by rw[fy,fy,h x (.head _),Ma λy b=>h y (.tail _ b)]
theorem Mb {a:Type}{p:a->Bool}:∀{l:List a},(∀i,l.findIdx? p=Z9 i->∃x,l[i]?=Z9 x/\l.find? p=Z9 x)/\(l.findIdx? p=Z8->l.find? p=Z8)
 | []=>⟨nofun,λ_=>rfl⟩
 |x::l=>by
  obtain⟨b,c⟩:=Mb;rw[fy,et];cases h:p x with
  |true=>exact⟨λi e=>by cases e;exact⟨x,rfl,rfl⟩,λe=>by cases e⟩
  |false=>
   refine⟨λi e=>?_,λe=>?_⟩
   .obtain⟨j,d,rfl⟩:=bp.mp e;obtain⟨y,f,g⟩:=b j d;exact⟨y,f,g⟩
   .exact c (Option.map_eq_none_iff.mp e)
theorem Me:∀{ks:List Nat},(∀k∈ks,∃q,GR q/\r k=mr q)->∃ps:List (Bool×P×P×P),(∀p∈ps,GR p)/\ks.map r=ps.map mr
 | [],_=>⟨[],nofun,rfl⟩
 |k::ks,h=>by obtain⟨p,a,e⟩:=h k (.head _);obtain⟨ps,b,c⟩:=Me λk d=>h k (.tail _ d);exact⟨p::ps,λx f=>(bq.mp f).elim (λe=>e▸a) (b x),by rw[br,br,e,c]⟩
theorem Mf {ks:List Nat}(j:∀k∈ks,∃q,GR q/\(h.at k).2.2=mr q)(c:CS f a)(x:ks.length<=1000):(mC h ks (cs2 f a)=.none/\zb1 [.list (ks.map λk=>(h.at k).2.2),cs2 f a]=.ok (.fr,.none))\/∃(i k:Nat) (b:Bool),ks[i]?=Z9 k/\mC h ks (cs2 f a)=.tuple [.str (sd b),.int k]/\zb1 [.list (ks.map λk=>(h.at k).2.2),cs2 f a]=.ok (.fr,.tuple [.str (sd b),.int i]):=by
 obtain⟨ps,m,e⟩:=Me j;have el:=by have:=congrArg jh e;rw[ae,ae]at this;exact this
 rw[e,Vk m c (by omega)];have s:(ps.findIdx? λp=>kW p f a)=ks.findIdx? λk=>vH (cs2 f a) (h.at k).2.2:=by rw[Ma λp d=>(Vp (m p d) c).symm];have n:=ml (l:=ks) (f:=λk=>(h.at k).2.2) (p:=vH (cs2 f a));rw[e]at n;exact(ml (l:=ps) (f:=mr) (p:=vH (cs2 f a))).symm.trans n
 obtain⟨t,u⟩:=Mb;have v:mC h ks (cs2 f a)=match ks.find? λk=>vH (cs2 f a) (h.at k).2.2 with|none=>.none|some k=>.tuple [rN (h.at k).2.2,.int k]:=rfl
 unfold oR;rw[s,v];cases o:ks.findIdx? λk=>vH (cs2 f a) (h.at k).2.2 with
 |none=>rw[u o];simp_all
 |some i=>
  obtain⟨k,g1,g2⟩:=t i o;rw[g2];obtain⟨p,d,r⟩:=j k (aq g1);have w:ps[i]?.map mr=Z9 (mr p):=by rw[<-ao,<-e,ao,g1];exact congrArg Z9 r
  obtain⟨y,g,ep⟩:=bp.mp w;refine .inr ⟨i,k,p.1,g1,by show PyData.tuple [rN (h.at k).2.2,_]=_;rw[r];rfl,?_⟩;show Res.ok (G.fr,PyData.tuple [rN (mr (ps.getD i (Z7,[],[],[]))),.int i])=_;rw[aa,g,Option.getD_some,ep];rfl
theorem Mg (q:wT Z c σ H λk H1=>if k=Z7 then wE Z a σ H1 Q else wE Z b σ H1 Q):wE Z (.yE c a b) σ H Q:=q
def spBo (φ:dN)(K:Z5)(HC CC:Addr):Sp:=λvs H Q _=>∃x A h vc s vw w vk f a vd dy B,vs=[.ref x,vc,vw,vk,vd]/\Hou K HC CC H x A h/\Hok φ h/\h.en.length<900/\Rep K H B vc (.str s)/\Rep K H B vw (.str w)/\Rep K H B vk (cs2 f a)/\CS f a/\Rep K H B vd dy/\φ.dy dy=Z7/\z1j h.es s=Z7/\∀H' v,Same H H'->Rep K H' AnyB v (mC h (stg φ h s w dy) (cs2 f a))->Q v H'
theorem znb {D:V}(hF:PhL g)(m0:Z.me[0]?=Z9 (o,("standing":Str),spSt g Z.K o CC Z.mg))(m1:Z.me[1]?=Z9 (o,("rulings_at":Str),spRa g Z.K o CC))(hz:Z.fn[0]?=Z9 (spD Z.K 2 zb1))(t:Hou Z.K o CC H x A h)(ok:Hok g h)(hb:h.en.length<900)(rc:Rep Z.K H B vc (.str s))(E:Rep Z.K H B D (.str w))(rk:Rep Z.K H B vk (cs2 f a))(c:CS f a)(rd:Rep Z.K H B vd dy)(hd:g.dy dy=Z7)(hc:z1j h.es s=Z7)
  (q:∀F v,Same H F->Rep Z.K F AnyB v (mC h (stg g h s w dy) (cs2 f a))->D0.rt v F):wS Z L4.bo D0 [Z9 (.ref x),Z9 vc,Z9 D,Z9 vk,Z9 vd,Z8,Z8] H:=by
 obtain⟨g1,g2⟩:=au.mp hc;obtain⟨fs,i1,i2⟩:=t.bQ;generalize G:stg g h s w dy=L at q;refine dX (fE m0 (aF rfl ⟨x,A.dx,fs,rfl,i1,i2 _ dc dc dc dc,aI (aF rfl (aI (aF rfl (aI (aF rfl (bJ ⟨x,A,h,vc,.str s,D,w,vd,dy,B,rfl,t,ok,rc,E,rd,hd,?_⟩))))))⟩));rw[tw g1];refine⟨s,rfl,g2,λH1 p S n1 T=>?_⟩;rw[G]at T;have l:∀k∈L,k<h.en.length:=λk r=>by rw[<-G]at r;exact vg r
 have I:L.length<=1000:=by rw[<-G];refine bj (cn _ _) (bj (cn _ _) ?_);rw[cx];omega
 have U:=t.same S;obtain⟨J,j1,j2⟩:=U.bQ;have rp:Rep Z.K H1 AnyB (.ref p) (.list (z0o L)):=⟨p,_,rfl,.inl ⟨T,trivial⟩,qY⟩;refine dX (tH hz (aI (fE m1 (aF rfl ⟨x,A.dx,J,rfl,j1,j2 _ dc dc dc dc,aI (aF rfl (bJ ⟨x,A,h,.ref p,L,AnyB,rfl,U,ok,rp,l,λH2 p2 ys s2 n2 e2 r2=>?_⟩))⟩))));have e:=S.trans s2;refine aI (aF rfl (bJ ?_));have rl:Rep Z.K H2 AnyB (.ref p2) (.list (L.map λk=>(h.at k).2.2)):=⟨p2,ys,rfl,.inl ⟨e2,trivial⟩,r2.weak λ_ z=>z.elim⟩;have m:=rk.same e λ_ _=>trivial;rcases Mf (λk r=>zp ok hF (l k r)) c I with⟨M,N⟩|⟨i,k,b,hi,M,N⟩
 .refine⟨AnyB,[.list (L.map λk=>(h.at k).2.2),cs2 f a],_,rfl,Reps.cons rl (Reps.cons m rfl),N,λv6 H3 u n=>?_⟩;cases n;rw[M]at q;refine tM (Mg ⟨.aO,rfl,_,rfl,?_⟩);exact A8 λH4 j=>q H4 .aO (e.trans (u.trans j)) rfl
 .refine⟨AnyB,[.list (L.map λk=>(h.at k).2.2),cs2 f a],_,rfl,Reps.cons rl (Reps.cons m rfl),N,λv6 H3 u n=>?_⟩;rw[M]at q;have d:=n.weak λ_ _=>trivial;obtain⟨O,P,rfl,Q,R⟩:=d;have d:Rep Z.K H3 AnyB (.ref O) (.tuple [.str (sd b),.int i]):=⟨O,P,rfl,Q,R⟩;refine tM (Mg ⟨.ref O,rfl,_,rfl,?_⟩);refine lU (aI (gP (aF rfl (kR λH4 j=>gC (d.same j λ_ z=>z) rfl λw4 r4=>?_))));refine aI (gP (aF rfl (gP (aF rfl (kR λH5 C=>gC (d.same (j.trans C) λ_ z=>z) rfl λw5 r5=>?_)))));cases r5;refine gC (rp.same ((s2.trans u).trans (j.trans C)) λ_ z=>z) (tJ (by unfold z0o;rw[ao,hi];rfl)) λw6 n=>?_;cases n;refine bJ ⟨by rw[cb];simp,λy hy=>?_⟩;exact q _ _ (e.trans (u.trans (j.trans (C.trans (Same.upd hy))))) ((eO (ds:=[.str (sd b),.int k]) hy (Reps.cons (Rep.aW _ rfl (r4.same C λ_ z=>z)) (Reps.cons rfl rfl))).weak λ_ z=>z.elim)
structure Bo (φ:dN)(K:Z5)(HC CC:Addr)(H:Hp)(x:Addr)(A:Ha)(a:Addr)(ds fs:List Addr)(h:Hd)(rs:List Cw):Prop where
 th:Hou K HC CC H x A h
 tl:Les K H a ds fs h
 ok:Hok φ h
 es:h.es=esC rs
 d1:∀b,A.own x b->¬(b=a\/b∈ds\/b∈fs)
 d2:∀b,b=a\/b∈fs->b≠A.c
def Ow (x:Addr)(A:Ha)(a:Addr)(fs:List Addr)(b:Addr):Prop:=A.own x b\/b=a\/b∈fs
section
variable {φ:dN}{K:Z5}{HC CC:Addr}{H H':Hp}{x:Addr}{A:Ha}{a:Addr}{ds fs:List Addr}{h:Hd}{rs:List Cw}{n:Int}{s w:Str}{r:D}
theorem Bo.same (t:Bo φ K HC CC H x A a ds fs h rs)(s:Same H H'):Bo φ K HC CC H' x A a ds fs h rs:=⟨t.th.same s,t.tl.same s,t.ok,t.es,t.d1,t.d2⟩
theorem wI (t:Hou K HC CC H x A h)(a:A.own x b\/b=A.c):H b≠none:=λz=>by
 rcases a with(rfl|rfl|rfl|rfl|a)|rfl
 .obtain⟨i,d,_⟩:=t.ins;rw[z]at d;cases d
 .have :=t.cH.fT;rw[z]at this;cases this
 .obtain⟨j,e,_⟩:=t.ent;rw[z]at e;cases e
 .have :=t.kS;rw[z]at this;cases this
 .obtain⟨k,g⟩:=ce.mp a;obtain⟨l,f,_⟩:=t.dM.2 k b g;rw[z]at f;cases f
 .have :=t.cH.ins;rw[z]at this;cases this
structure mD (φ:dN)(K:Z5)(HC CC:Addr)(H H':Hp)(x:Addr)(A A':Ha)(a:Addr)(fs kX jE:List Addr)(h':Hd)(rs:List Cw):Prop where
 b:Bo φ K HC CC H' x A' a kX jE h' rs
 fr:∀b o,¬Ow x A a fs b->H b=Z9 o->H' b=Z9 o
 ow:∀b,Ow x A' a jE b->Ow x A a fs b\/H b=Z8
theorem Bo.put (t:Bo φ K HC CC H x A a ds fs h rs)(c:h.en.length<1000)(v:φ.G r)(B:imm r=Z7)(hc:z1j h.es s=Z7)(l:Frm1 A x H g)(n1:H p=Z8)(j:Hou K HC CC g x {A with as:=A.as++[p]} (h.put n s w r (fll φ h s w r)))(k:FrmL a fs g H')(n2:g d=Z8)(n3:g f=Z8)(C:Les K H' a (ds++[d]) (fs++[f]) (h.put n s w r (fll φ h s w r)))(m:Les K g a ds fs h):
  mD φ K HC CC H H' x A {A with as:=A.as++[p]} a fs (ds++[d]) (fs++[f]) (h.put n s w r (fll φ h s w r)) rs:=by
 have D:∀{b:Addr},b=a\/b∈ds\/b∈fs->b≠p:=λ{b} c z=>t.tl.there c (z▸n1)
 have i:∀b,({A with as:=A.as++[p]}:Ha).own x b->¬(b=a\/b∈ds\/b∈fs):=λb c z=>by
  rcases LS c with c|c
  .exact t.d1 b c z
  .exact D z c
 have E:∀{b:Addr},g b=Z8->H b=Z8\/A.own x b:=λ{b} e=>by
  by_cases q:A.own x b
  .exact .inr q
  .cases F:H b with
   |none=>exact .inl rfl
   |some o=>rw[l b o q F]at e;cases e
 refine⟨⟨j.keep (λb o c e=>k b o (λz=>?_) (λz=>?_) e) (λb o e z=>k b o (λy=>m.cT (.inl y) e z) (λy=>m.cT (.inr y) e z) e),C,t.ok.put c v B hc,t.es,λb c z=>?_,λb c z=>?_⟩,λb o c e=>k b o (λz=>c (.inr (.inl z))) (λz=>c (.inr (.inr z))) (l b o (λz=>c (.inl z)) e),λb c=>?_⟩
 .rcases c with c|c
  .exact i b c (.inl z)
  .exact t.d2 b (.inl z) c
 .rcases c with c|c
  .exact i b c (.inr (.inr z))
  .exact t.d2 b (.inr z) c
 .have u:=wI j (.inl c);rcases z with z|z|z
  .exact i b c (.inl z)
  .rcases bu.mp z with z|z
   .exact i b c (.inr (.inl z))
   .exact u (az.mp z▸n2)
  .rcases bu.mp z with z|z
   .exact i b c (.inr (.inr z))
   .exact u (az.mp z▸n3)
 .rcases c with c|c
  .exact t.d2 b (.inl c) z
  .rcases bu.mp c with c|c
   .exact t.d2 b (.inr c) z
   .exact wI j (.inr z) (az.mp c▸n3)
 .rcases c with c|c|c
  .rcases LS c with c|c
   .exact .inl (.inl c)
   .exact .inr (c▸n1)
  .exact .inl (.inr (.inl c))
  .rcases bu.mp c with c|c
   .exact .inl (.inr (.inr c))
   .rcases E (az.mp c▸n3)with z|z
    .exact .inr z
    .exact .inl (.inl z)
end
section
variable {φ:dN}{K:Z5}{HC CC:Addr}{H H' oG:Hp}{x a:Addr}{A A':Ha}{ds fs kX jE:List Addr}{h h':Hd}{rs:List Cw}
theorem mD.same (p:mD φ K HC CC H H' x A A' a fs kX jE h' rs)(s:Same H' oG):mD φ K HC CC H oG x A A' a fs kX jE h' rs:=⟨p.b.same s,λb o n e=>s b o (p.fr b o n e),p.ow⟩
theorem mD.from (s:Same H H')(p:mD φ K HC CC H' oG x A A' a fs kX jE h' rs):mD φ K HC CC H oG x A A' a fs kX jE h' rs:=⟨p.b,λb o n e=>p.fr b o n (s b o e),λb o=>(p.ow b o).imp id λz=>s.none z⟩
theorem Bo.Vq (t:Bo φ K HC CC H x A a ds fs h rs)(s:Same H H'):mD φ K HC CC H H' x A A a fs ds fs h rs:=⟨t.same s,λb o _ e=>s b o e,λb o=>.inl o⟩
theorem Bo.cT (t:Bo φ K HC CC H x A a ds fs h rs)(c:Ow x A a fs b)(e:H b=Z9 o):¬Fix o:=by
 rcases c with c|c
 .exact t.th.cT c e
 .exact t.tl.cT c e
end
theorem Vr:∀{m:Nat} {t:Str},aR es m t=Z7->aR es (m+1) t=true:=λ{m}=>by
 induction m with
 |zero=>
  intro t h;rcases wj h with⟨e,_⟩|⟨a,b,hm,_⟩
  .unfold aR;rw[e]
  .omega
 |succ m c=>
  intro t h;rcases wj h with⟨e,_⟩|⟨a,b,hm,e,d,_⟩
  .unfold aR;rw[e]
  .unfold aR;rw[e];obtain rfl:m=b:=by omega
   exact c d
theorem Gf (h:aR es m t=Z7)(a:m<=n):aR es n t=true:=by
 obtain⟨k,rfl⟩:=Nat.exists_eq_add_of_le a
 induction k with
 |zero=>exact h
 |succ k b=>exact Vr (b (by omega))
theorem Vs:∀{n:Nat} {t u:Str},n<=999->aR es n t=Z7->u∈eN es n t->z1j es u=true:=λ{n}=>by
 induction n with
 |zero=>
  intro t u hn h hu;rcases wj h with⟨e,el⟩|⟨a,m',hm,_⟩
  .rw[el]at hu;cases az.mp hu;unfold z1j Mi.stN;rw[e,Gf h hn];rfl
  .omega
 |succ n ih=>
  intro t u hn h hu;rcases wj h with⟨e,el⟩|⟨a,m',hm,e,h2,el⟩
  .rw[el]at hu;cases az.mp hu;unfold z1j Mi.stN;rw[e,Gf h hn];rfl
  .obtain rfl:n=m':=by omega
   rw[el]at hu;rcases bq.mp hu with rfl|hu
   .unfold z1j Mi.stN;rw[e,Gf h hn];rfl
   .exact ih (by omega) h2 hu
theorem Vt (h:aR es n t=Z7):0<(eN es n t).length:=by
 rcases wj h with⟨e,el⟩|⟨a,b,hm,e,c,el⟩
 .rw[el];exact Nat.one_pos
 .rw[el];simp_all
section
variable {φ:dN}{K:Z5}{HC CC:Addr}{H H1 H':Hp}{x a:Addr}{A:Ha}{ds fs:List Addr}{h:Hd}{rs:List Cw}{n:Int}{s:Str}{k:Nat}
theorem _root_.Mi.Hok.oS (ok:Hok φ h)(a:k<h.en.length)(hf:(h.fa k).length=1):Hok φ (h.oS n s k) where
 len:=by show(h.ft.set k _).length=h.en.length;rw[cw];exact ok.len
 big:=ok.big
 gd:=ok.gd
 fo:=λf z=>by
  rcases List.mem_or_eq_of_mem_set z with z|rfl
  .exact ok.fo f z
  .have :=ok.fo (h.fa k) (aq (Hd.fP (ok.len▸a)));refine⟨by rw[aw,hf,dr];decide,by rw[aw,hf,dr];decide,λr hr=>?_⟩;rcases bu.mp hr with hr|hr
   .exact this.2.2 r hr
   .cases az.mp hr;rfl
theorem Bo.oS (t:Bo φ K HC CC H x A a ds fs h rs)(f:k<h.en.length)(hf:(h.fa k).length=1)(g:FrmL a fs H H1)(i:Les K H1 a ds fs {h with ft:=h.ft.set k (h.fa k++[zt n s])})(j:Hou K HC CC H1 x A h)(d:Frm1 A x H1 H')(l:Hou K HC CC H' x A (h.oS n s k)):mD φ K HC CC H H' x A A a fs ds fs (h.oS n s k) rs:=by have l2:=i.keep (λb o c e=>d b o (λz=>t.d1 b z c) e) (j.fix d);exact⟨⟨l,⟨l2.1,l2.2,l2.3,l2.4,l2.5,l2.6⟩,t.ok.oS f hf,t.es,t.d1,t.d2⟩,λb o c e=>d b o (λz=>c (.inl z)) (g b o (λz=>c (.inr (.inl z))) (λz=>c (.inr (.inr z))) e),λb z=>.inl z⟩
end
def wJ (h h':Hd)(n:Int):Prop:=∀f∈h'.ft,∀r∈f,oQ r=n\/∃f0∈h.ft,r∈f0
theorem Mh {ft:List (List D)}(hf:f∈ft.set i (ft.getD i []++[t]))(hr:r∈f):r=t\/∃a∈ft,r∈a:=by grind
theorem Mj:∀L ft f,f∈fQ ft L t->∀r∈f,r=t\/∃a∈ft,r∈a
 | [],ft,f,hf,r,hr=>.inr ⟨f,hf,hr⟩
 |i::L,ft,f,hf,r,hr=>by
  rcases Mj L (ft.set i (ft.getD i []++[t])) f hf r hr with z|⟨a,h0,z⟩
  .exact .inl z
  .exact Mh h0 z
theorem Vu (h:Hd)(n:Int):wJ h h n:=λf hf r hr=>.inr ⟨f,hf,hr⟩
theorem Vw (h:Hd)(n:Int)(s:Str)(k:Nat):wJ h (h.oS n s k) n:=λf hf r hr=>(Mh (t:=zt n s) hf hr).imp (λz=>by rw[z];rfl) id
theorem Vx (h:Hd)(n:Int)(s w:Str)(r:D)(L:List Nat):wJ h (h.put n s w r L) n:=λf hf x hx=>by
 rcases bu.mp hf with z|z
 .exact(Mj L _ f z x hx).imp (λz=>by rw[z];rfl) id
 .rw[az.mp z]at hx;rw[az.mp hx];exact .inl rfl
namespace L4
abbrev wK (k:Int):C:=.call 1 "_law_pick" (.cons (.var 4) (.cons (.int k) .nil))
abbrev Ml:C:=.comp 1 [2] ["_law_number","_law_entries"] (.nm 0) (.eI (.cons (.bi "len" (.cons (.var 2) .nil)) .nil)) (.tv (.cmp .Eq (.bi "len" (.cons (.ix (.ix (.var 1) (.var 0)) (.str "fate")) .nil)) (.int 1))) (.var 0)
abbrev Vy:C:=.and (.tv (.cmp .Eq (.bin .Mod (wK 0) (.int 4)) (.int 0))) (.tv (.cmp .Gt (.bi "len" (.cons (.var 7) .nil)) (.int 0)))
abbrev Mm:WS:=.seq (.asg 8 (.aX (.ix (.var 7) (.bin .Mod (wK 21) (.bi "len" (.cons (.var 7) .nil))))))
 (.seq (.asg 9 (.aX (.call 2 "_law_line" (.cons (.var 1) (.cons (.ix (.ix (.var 2) (.var 8)) (.str "court")) .nil)))))
 (.seq (.asg 10 (.aX (.ix (.var 9) (.bin .Mod (wK 22) (.bi "len" (.cons (.var 9) .nil))))))
 (.seq (.app (.uT (.qQ (.raw 2) (.raw 8)) (.aX (.str "fate"))) (.tup (.cons (.aX (.str "overruled")) (.cons (.raw 6) (.cons (.raw 10) .nil)))))
 (.seq (.ret (.iY Z6 (.cC (.raw 0) 0 (.cons (.raw 6) (.cons (.raw 10) (.cons (.raw 8) .nil)))))) .nil))))
abbrev Vz:WS:=.seq (.asg 10 (.aX (.ix (.var 3) (.bin .Mod (wK 2) (.int 5)))))
 (.seq (.asg 11 (.aX (.ix (.var 3) (.bin .Add (.int 5) (.bin .Mod (wK 3) (.int 2))))))
 (.seq (.asg 12 (.aX (.call 0 "_law_ruling" (.cons (.var 3) (.cons (.var 4) (.cons (.var 5) .nil))))))
 (.seq (.asg 13 (.gO 0 (.cons (.raw 0) (.cons (.raw 6) (.cons (.raw 10) (.cons (.raw 11) (.cons (.raw 12) .nil)))))))
 (.seq (.ret (.cmp .Eq (.raw 13) (.gO 1 (.cons (.raw 1) (.cons (.raw 2) (.cons (.raw 6) (.cons (.raw 10) (.cons (.raw 11) (.cons (.raw 12) .nil))))))))) .nil))))
def de:WS:=.seq (.asg 7 (.aX Ml)) (.seq (.bN (.tp Vy) Mm .nil) Vz)
end L4
abbrev Φd:List Fn:=[FH,iA,pH]
structure Fx2 (rs:List Cw)(ns:List Str):Prop where
 nd:ns.Nodup
 l8:ns.length=9
 l5:rs.length=5
 nm:nmC rs=ns.take 5
 gd:GoodC rs
theorem Fx2.wL (f:Fx2 rs ns):(nmC rs).Nodup:=f.nm▸(mh 5 ns).nodup f.nd
theorem Fx2.cH (f:Fx2 rs ns)(h:s∈nmC rs):z1j (esC rs) s=true:=by have:=Fq f.wL f.gd (by rw[f.l5];decide) (ak rs.length) (by rw[gw];exact h);rw[gw]at this;exact this
theorem Fx2.at (f:Fx2 rs ns){k:Int}(h0:0<=k)(a:k<5):ns.getD k.toNat ⟨#[]⟩∈nmC rs:=by rw[f.nm,aa,ac (by rw[f.l8];omega)];exact ce.mpr ⟨k.toNat,by rw[jq (by omega),ac];rfl⟩
def sts (h:Hd):List Nat:=(bw h.en.length).filter λk=>(h.fa k).length==1
theorem VA (hb:h.en.length<1000)(h2:ρ[2]?=Z9 (Z9 (.od,.list (dY h)))):aL [] Φ L4.Ml ρ=.ok (.fr,.list (z0o (sts h))):=by
 by_cases hi:imm (.list (dY h))=Z7
 all_goals
  have hr:∃g,fI (ρ.getD 2 Z8)=Z9 (g,.list (dY h)):=by rw[aa,h2];exact⟨_,rfl⟩
  obtain⟨g,hr⟩:=hr;exact z2n (λk=>(h.fa k).length==1) (λk=>.int k) (sX (aD (bM (aD (aC h2) aN) (by rw[mQ,vD]) rfl).e aN) (by rw[sW (by omega) (by omega),fh])) rfl (λk=>[Z9 (.al,.int k),Z9 (g,.list (dY h))]) (λk hk=>by show fD (.nm 0) _ ([Z8]++[fI (ρ.getD 2 Z8)])=_;rw[hr];exact tO rfl) (λk hk=>aP (bZ (bM (aD (iR (iR (aC rfl) (aC rfl) (tQ (dq.mp hk))) cP.e (jX _ _)) aN) rfl rfl).e aJ.e (LX _)).e rfl) λk hk _=>v_var rfl rfl
section
variable {H:Hp}{rs:List Cw}{ns:List Str}
variable {vr vn vk:V}{c:Int×Bool}{B:Ad->Prop}
abbrev tR (x:Addr)(vr:V)(a:Addr)(vn vk:V)(g dy:Int)(tl:L2.St):L2.St:=Z9 (.ref x)::Z9 vr::Z9 (.ref a)::Z9 vn::Z9 vk::Z9 (.int g)::Z9 (.int dy)::tl
abbrev wM (rs:List Cw)(h:Hd)(ns:List Str)(c:Int×Bool)(g dy:Int)(tl:Rho):Rho:=Z8::Z9 (.od,.list (rs.map cwD))::Z9 (.od,.list (dY h))::Z9 (.od,.list (ns.map .str))::Z9 (.od,cV c)::Z9 (.od,.int g)::Z9 (.od,.int dy)::tl
structure Dd (K:Z5)(H:Hp)(B:Ad->Prop)(rs:List Cw)(ns:List Str)(c:Int×Bool)(vr vn vk:V):Prop where
 rr:Rep K H B vr (.list (rs.map cwD))
 rn:Rep K H B vn (.list (ns.map .str))
 rk:Rep K H B vk (cV c)
theorem Dd.same {K:Z5}(d:Dd K H B rs ns c vr vn vk)(s:Same H a):Dd K a B rs ns c vr vn vk:=⟨d.rr.same s λ_ z=>z,d.rn.same s λ_ z=>z,d.rk.same s λ_ z=>z⟩
theorem Dd.keep {K:Z5}(d:Dd K H B rs ns c vr vn vk)(k:∀b o,H b=Z9 o->(B (Z9 b)\/Fix o)->a b=Z9 o):Dd K a B rs ns c vr vn vk:=⟨Rep.keep k (λ_ z=>z) _ d.rr,Rep.keep k (λ_ z=>z) _ d.rn,Rep.keep k (λ_ z=>z) _ d.rk⟩
theorem iT {K:Z5}(d:Dd K H B rs ns c vr vn vk)(l:Les K H a e fs h)(t:Sl K H tl b):Sl K H (tR x vr a vn vk g dy tl) (wM rs h ns c g dy b):=.no (.da d.rr (.da l.rep (.da d.rn (.da d.rk (.iS (.iS t))))))
theorem zu (c:Int×Bool)(h0:0<=k)(a:k<=100)(b:ρ[4]?=Z9 (Z9 (.od,cV c))):∃n,(0<=n/\n<60)/\Vv [] Φd (L4.wK k) ρ (.int n):=by obtain⟨n,hn,e⟩:=vz c h0 a;exact⟨n,hn,bW (aD (aC b) (aD aJ.e aN)) rfl e rfl⟩
theorem VB {ks:List Nat}{i:Int}(h0:0<=i)(b:i<ks.length):∃k,k∈ks/\dQ (.list (z0o ks)) (.int i)=.ok (.int (k:Nat)):=by
 obtain⟨m,rfl⟩:∃m:Nat,i=m:=⟨i.toNat,by omega⟩;have a:m<ks.length:=by omega
 exact⟨ks[m],fv a,tJ (by unfold z0o;rw[ao,ac a];rfl)⟩
theorem zlg (hκ:Z.Κ=[])(hφ:Z.Φ=Φd)(m0:Z.me[0]?=Z9 (HC,("overrule":Str),spOv φ Z.K HC CC))(fx:Fx2 rs ns)(d:Dd Z.K H B rs ns c vr vn vk)(t:Bo φ Z.K HC CC H x A a ds fs h rs)(hla:late h.ld dy=Z6)(r7:Rep Z.K H AnyB v7 (.list (z0o (sts h))))(hp:0<(sts h).length)
  (q:∀H',(∃k s,mD φ Z.K HC CC H H' x A A a fs ds fs (h.oS dy s k) rs)->D0.rt (.bl Z7) H'):wS Z L4.Mm D0 (tR x vr a vn vk g dy [Z9 v7,o8,o9,pK,jY,rO,oT]) H:=by
 obtain⟨n,hn,e⟩:=zu (ρ:=wM rs h ns c g dy (Z9 (.od,.list (z0o (sts h)))::ay 6 Z8)) c (k:=21) dc dc rfl;have hl:(z0o (sts h)).length=(sts h).length:=ae _;obtain⟨k,hk,ek⟩:=VB (i:=n%((sts h).length:Int)) (fk _ (by omega)) (g6 _ (by omega));refine dX (dJ hκ hφ (iT d t.tl (.da r7 (dZ [o8,o9,pK,jY,rO,oT]))) (aH (aC rfl) (bK e.e (bM (aD (aC rfl) aN) (by rw[mQ,hl]) rfl).e (eM (by omega)) rfl).e ek rfl).e λv8 H1 s1 r8=>?_);cases r8;obtain⟨k1,k2⟩:=dn.mp hk;have zv:=dq.mp k1;have zq:=t8 (by simpa using k2);have he:=(au.mp ((t.ok.gd _ (aq (Hd.get zv))).2.2)).2;have uZ:=t.es;refine dX (dJ hκ hφ (iT (d.same s1) (t.tl.same s1) (.da (r7.same s1 λ_ z=>z) (.iS (dZ [o9,pK,jY,rO,oT])))) (d:=.list ((ln (esC rs) (h.at k).1).map .str)) (eX (aD (aC rfl) (aD (aH (iR (aC rfl) (aC rfl) (tQ zv)) cP.e (oP _ _) rfl).e aN)) rfl (Br fx.wL (uZ▸he))) λv9 H2 s2 r9=>?_);have lW:=s1.trans s2;obtain⟨n2,Bv,e2⟩:=zu (ρ:=wM rs h ns c g dy (Z9 (.od,.list (z0o (sts h)))::Z9 (.od,.int k)::Z9 (.od,.list ((ln (esC rs) (h.at k).1).map .str))::ay 4 Z8)) c (k:=22) dc dc rfl;have lp:0<(ln (esC rs) (h.at k).1).length:=Vt (uZ▸he);have b1:=g6 n2 (b:=((ln (esC rs) (h.at k).1).length:Int)) (by omega);refine dX (dJ hκ hφ (iT (d.same lW) (t.tl.same lW) (.da (r7.same lW λ_ z=>z) (.iS (.da r9 (dZ [pK,jY,rO,oT]))))) (aH (aC rfl) (bK e2.e (bM (d:=.int (ln (esC rs) (h.at k).1).length) (aD (aC rfl) aN) (by rw[mQ,ae]) rfl).e (eM (by omega)) rfl).e (qN (fk n2 (b:=((ln (esC rs) (h.at k).1).length:Int)) (by omega)) b1) rfl).e λv10 H3 s3 Bw=>?_);have zw:(ln (esC rs) (h.at k).1).getD (n2%((ln (esC rs) (h.at k).1).length:Int)).toNat ⟨#[]⟩∈ln (esC rs) (h.at k).1:=by rw[aa,ac (by omega)];exact fv _
 generalize (ln (esC rs) (h.at k).1).getD (n2%((ln (esC rs) (h.at k).1).length:Int)).toNat ⟨#[]⟩=s at Bw zw;have rC:=lW.trans s3;have t3:=t.same rC;have Mn:k<ds.length:=t.tl.dl▸zv;obtain⟨f,v,e1,VC,_,_⟩:=t3.tl.ent k ds[k] (ac Mn);obtain⟨ws,e3,rws⟩:=t3.tl.dM.2 k f e1;refine eP (rD (show wE Z (.uT (.qQ (.raw 2) (.raw 8)) (.aX (.str "fate"))) _ H3 _ from EZ (aF rfl (aF rfl (.inl ⟨a,_,k,.ref ds[k],rfl,rfl,SqL.of t3.tl.lst,?_,jC Bs λH4 s4=>⟨ds[k],.ref f,rfl,LZ (h.at k) v f▸DGet.k (s4 _ _ VC),.inl ⟨rfl,_,SqL.of (s4 _ _ e3)⟩,lU (aI (jC Bu λH5 s5=>aI (aF rfl (aI (aF rfl (bJ ⟨by rw[cb];simp,λp hp=>?_⟩))))))⟩⟩)))))
 .have :(ds.map V.ref)[k]?=Z9 (.ref ds[k]):=by rw[ao,ac Mn];rfl
  unfold L2.bT;have yZ:L2.gE (ds.map V.ref).length k=Z9 k:=by unfold L2.gE;rw[tw (by omega),tw (by grind),fh]
  rw[yZ];exact this
 obtain⟨rfl,hs⟩:=Bw;have Gg:=s4.trans (s5.trans (Same.upd (o:=.tup [.str "overruled",.int dy,.str s]) hp));have Mo:=rC.trans Gg;have t6:=t.same Mo;have e6:=Gg _ _ e3;have ry:Rep Z.K (upd H5 p (.tup [.str "overruled",.int dy,.str s])) NoB (.ref p) (zt dy s):=eO hp (Reps.cons ⟨rfl,Bu⟩ (Reps.cons rfl (Reps.cons ⟨rfl,hs⟩ rfl)));generalize upd H5 p (.tup [.str "overruled",.int dy,.str s])=H6 at *
 have l7:=t6.tl.iQ e1 e6 (rws.same Gg λ_ z=>z) ry;have f7:FrmL a fs H (upd H6 f (.lst (ws++[.ref p]))):=λb o _ h2 e=>by rw[aG λ(z:b=f)=>h2 (z▸aq e1)];exact Mo b o e
 refine⟨f,ws,.ref p,rfl,rfl,e6,?_,?_⟩
 .have :=rws.length;rw[show ws.length=(h.fa k).length from this,zq];decide
 have fm:=aq e1
 have t7:Hou Z.K HC CC (upd H6 f (.lst (ws++[.ref p]))) x A h:=t6.th.keep (λb o hb e=>by
  rw[aG λz=>?_];exact e;rcases hb with hb|hb
  .exact t.d1 b hb (.inr (.inr (z▸fm)))
  .exact t.d2 f (.inr fm) (z▸hb)) λb o e z=>by
  rw[aG λy=>?_];exact e;subst y;exact t6.tl.cT (.inr fm) e z
 generalize upd H6 f (.lst (ws++[.ref p]))=H7 at *
 obtain⟨is,i1,i2⟩:=t7.bQ;refine tM (show wE Z (.cC (.raw 0) 0 _) (tR x vr a vn vk g dy [Z9 v7,Z9 (.int k),Z9 v9,Z9 (.str s),jY,rO,oT]) H7 (λz H'=>D0.rt (.bl (decide (z=.aO))) H')from fE m0 (aF rfl ⟨x,A.dx,is,rfl,i1,i2 _ dc dc dc dc,aI (aF rfl (aI (aF rfl (aI (aF rfl (bJ ⟨x,A,h,dy,.str s,s,k,NoB,rfl,t7,t.ok,zv,zq,⟨rfl,hs⟩,?_,?_,hla,λH' f1 t2=>q H' ⟨k,s,t.oS zv zq f7 l7 t7 f1 t2⟩⟩))))))⟩))
 .rw[uZ];exact Vs (ak _) (uZ▸he) zw
 .rw[uZ];simp_all
end
def spDe (φ:dN)(K:Z5)(HC CC:Addr):Sp:=λvs H Q _=>∃x A a ds fs h rs ns vr vn vk c g dy B,vs=[.ref x,vr,.ref a,vn,vk,.int g,.int dy]/\Fx2 rs ns/\Dd K H B rs ns c vr vn vk/\Bo φ K HC CC H x A a ds fs h rs/\(∀b,B (Z9 b)->¬Ow x A a fs b)/\h.en.length<800/\late h.ld dy=Z6/\∀H' A' kX jE h',mD φ K HC CC H H' x A A' a fs kX jE h' rs->h'.en.length<=h.en.length+1->(h'.ld=h.ld\/h'.ld=Z9 dy)->wJ h h' dy->Q (.bl Z7) H'
theorem zh6 {vw:V}(hF:PhL φ)(f0:Z.fn[0]?=Z9 (spTe φ Z.K HC CC))(f1:Z.fn[1]?=Z9 (spEl φ Z.K))(fx:Fx2 rs ns)(d:Dd Z.K H B rs ns c vr vn vk)(t:Bo φ Z.K HC CC H x A a ds fs h rs)(hB:∀b,B (Z9 b)->¬Ow x A a fs b)(hb:h.en.length<800)(hla:late h.ld dy=Z6)
  (rc:Rep Z.K H AnyB vc (.str s)) (rw':Rep Z.K H AnyB vw (.str w)) (rm:Rep Z.K H AnyB vm (mr p)) (hp:GR p) (hs:s∈nmC rs)
  (q:∀H' A' kX jE h',mD φ Z.K HC CC H H' x A A' a fs kX jE h' rs->h'.en.length<=h.en.length+1->(h'.ld=h.ld\/h'.ld=Z9 dy)->wJ h h' dy->D0.rt (.bl Z7) H'):
  wS Z (.seq (.asg 13 (.gO 0 (.cons (.raw 0) (.cons (.raw 6) (.cons (.raw 10) (.cons (.raw 11) (.cons (.raw 12) .nil)))))))
 (.seq (.ret (.cmp .Eq (.raw 13) (.gO 1 (.cons (.raw 1) (.cons (.raw 2) (.cons (.raw 6) (.cons (.raw 10) (.cons (.raw 11) (.cons (.raw 12) .nil))))))))) .nil)) D0 (tR x vr a vn vk g dy [o7,o8,o9,Z9 vc,Z9 vw,Z9 vm,oT]) H:=by
 have hc:z1j h.es s=true:=t.es▸fx.cH hs;have gp:=hF.g1 p hp;refine dX ?_;show(match Z.fn[0]? with|some sp=>oZ sp [] Z.E (wA Z _)|none=>fN) (tR x vr a vn vk g dy [o7,o8,o9,Z9 vc,Z9 vw,Z9 vm,oT]) H _;rw[f0];refine aI (aF rfl (aI (aF rfl (aI (aF rfl (aI (aF rfl (aI (aF rfl (bJ ⟨x,A,h,dy,vc,s,vw,w,vm,cs2 p.2.1 p.2.2.1,.str (sd p.1),pk p.2.2.2,AnyB,rfl,t.th,t.ok,by omega,rc,rw',rm,mR p,gp,hc,hla,?_⟩))))))))))
 have own:∀{H1:Hp} {rP:V} {b:Bool} {k:Nat},Rep Z.K H1 AnyB rP (.tuple [.str (if b then "number"else "barred"),.int k])->Les Z.K H1 a ds fs h->Dd Z.K H1 B rs ns c vr vn vk->Rep Z.K H1 AnyB vc (.str s)->Rep Z.K H1 AnyB vw (.str w)->Rep Z.K H1 AnyB vm (mr p)->eT φ Z.K H1 a ds fs h dy s w (mr p) (λoU H2=>Rep Z.K H2 AnyB rP (.tuple [.str (if b then "number"else "barred"),.int k])/\Rep Z.K H2 AnyB oU (.tuple [.str (if b then "number"else "barred"),.int k])/\∀H3,Same H2 H3->D0.rt (.bl Z7) H3)->wS Z (.seq (.ret (.cmp .Eq (.raw 13) (.gO 1 (.cons (.raw 1) (.cons (.raw 2) (.cons (.raw 6) (.cons (.raw 10) (.cons (.raw 11) (.cons (.raw 12) .nil))))))))) .nil) D0 (tR x vr a vn vk g dy [o7,o8,o9,Z9 vc,Z9 vw,Z9 vm,Z9 rP]) H1:=λ{H1 rP b k} wN l1 d1 c1 w1 m1 q1=>by
  refine tM (E1 (aF rfl ?_));show(match Z.fn[1]? with|some sp=>oZ sp [] Z.E (wA Z _)|none=>fN) (tR x vr a vn vk g dy [o7,o8,o9,Z9 vc,Z9 vw,Z9 vm,Z9 rP]) H1 _;rw[f1];refine aI (aF rfl (aI (aF rfl (aI (aF rfl (aI (aF rfl (aI (aF rfl (aI (aF rfl (bJ ⟨vr,a,dy,vc,vw,vm,ds,fs,h,rs,s,w,p,B,rfl,fx.wL,t.es,t.ok,by omega,l1,d1.rr,Rep.aW _ rfl c1,Rep.aW _ rfl w1,Rep.aW _ (mR p) m1,hp,hc,λb z=>⟨λe=>hB b z (.inr (.inl e)),λe=>hB b z (.inr (.inr e))⟩,?_⟩))))))))))));have fin:∀{oU:V} {H2:Hp},(Rep Z.K H2 AnyB rP (.tuple [.str (if b then "number"else "barred"),.int k])/\Rep Z.K H2 AnyB oU (.tuple [.str (if b then "number"else "barred"),.int k])/\∀H3,Same H2 H3->D0.rt (.bl Z7) H3)->jN Z.K (mB (cmpD .Eq)) rP oU H2 D0.rt:=λ{oU H2} z=>mP z.1 z.2.1 (eq_self (by cases b<;>rfl)) z.2.2;unfold eT at q1 ⊢;cases oV:bar φ h s w (mr p)with
  |some k'=>rw[oV]at q1;exact λH2 oU s2 vJ=>fin (q1 H2 oU s2 vJ)
  |none=>rw[oV]at q1;exact λH2 dd ff oU fr n2 n3 t2 vJ=>fin (q1 H2 dd ff oU fr n2 n3 t2 vJ)
 show match bar φ h s w (mr p)with|some k=>_|none=>_
 cases oV:bar φ h s w (mr p)with
 |some k=>intro H1 rP s1 wN;refine own (b:=Z6) (wN.weak λ_ z=>z.elim) (t.tl.same s1) (d.same s1) (rc.same s1 λ_ z=>z) (rw'.same s1 λ_ z=>z) (rm.same s1 λ_ z=>z) ?_;unfold eT;rw[oV];intro H2 oU s2 vJ;exact⟨wN.same s2 λ_ z=>z.elim,vJ.weak λ_ z=>z.elim,λH3 s3=>q H3 A ds fs h (t.Vq ((s1.trans s2).trans s3)) (j5 _) (.inl rfl) (Vu h dy)⟩
 |none=>
  intro H1 p' rP Bz n1 VD wN;have Gh:=t.th.fix Bz;have l1:=t.tl.keep (λb o hb e=>Bz b o (λz=>t.d1 b z hb) e) Gh
  have d1:=d.keep λb o e z=>by
   rcases z with z|z
   .exact Bz b o (λy=>hB b z (.inl y)) e
   .exact Gh b o e z
  have im:∀{v:V} {e:D},imm e=Z7->Rep Z.K H AnyB v e->Rep Z.K H1 AnyB v e:=λ{v e} hi r=>Rep.hU Gh e hi r;refine own (b:=Z7) (wN.weak λ_ z=>z.elim) l1 d1 (im rfl rc) (im rfl rw') (im (mR p) rm) ?_;unfold eT;rw[oV];intro H2 dd ff oU Mp n2 n3 t2 vJ;refine⟨Rep.hU (λb o e z=>Mp b o (λy=>l1.cT (.inl y) e z) (λy=>l1.cT (.inr y) e z) e) _ rfl wN,vJ.weak λ_ z=>z.elim,λH3 s3=>q H3 _ _ _ _ ((t.put (by omega) gp (mR p) hc Bz n1 VD Mp n2 n3 t2 l1).same s3) ?_ (.inr rfl) (Vx _ _ _ _ _ _)⟩;show(h.en++[_]).length<=_;rw[aw];simp_all
theorem zrl (f:Z.Κ=[])(i:Z.Φ=Φd)(hF:PhL φ)(m0:Z.me[0]?=Z9 (L,("overrule":Str),spOv φ Z.K L M))(f0:Z.fn[0]?=Z9 (spTe φ Z.K L M))(f1:Z.fn[1]?=Z9 (spEl φ Z.K))(fx:Fx2 rs ns)(d:Dd Z.K H B rs ns c vr vn vk)(t:Bo φ Z.K L M H x A a ds fs h rs)(hB:∀b,B (Z9 b)->¬Ow x A a fs b)(hb:h.en.length<800)(G:late h.ld dy=Z6)
  (q:∀F N u v w,mD φ Z.K L M H F x A N a fs u v w rs->w.en.length<=h.en.length+1->(w.ld=h.ld\/w.ld=Z9 dy)->wJ h w dy->D0.rt (.bl Z7) F):wS Z L4.de D0 (tR x vr a vn vk g dy [o7,I,J,y,m,j,l]) H:=by
 refine dX (dJ f i (iT d t.tl (dZ [o7,I,J,y,m,j,l])) ⟨_,VA (by omega) rfl⟩ λv7 H1 O o=>?_);have P:(z0o (sts h)).length=(sts h).length:=ae _;obtain⟨n,hn,e⟩:=zu (ρ:=wM rs h ns c g dy (Z9 (.od,.list (z0o (sts h)))::ay 6 Z8)) c (k:=0) dc dc rfl
 have Q:cmpD .Gt (.int ((sts h).length:Int)) (.int 0)=.ok (decide (0<(sts h).length)):=by
  show Res.ok (decide (0<_))=_
  congr 1
  rw[ju,decide_eq_true_iff,decide_eq_true_iff];omega
 have R:∃b,cmpD .Eq (.int (n%4)) (.int 0)=.ok b:=⟨_,rfl⟩;obtain⟨b,S⟩:=R;refine eP (lX (zo f i (iT (d.same O) (t.same O).tl (.da o (dZ [I,J,y,m,j,l]))) (b:=b&&decide (0<(sts h).length)) (qP (aP (bZ (bK e.e aJ.e (eM dc) rfl).e aJ.e S).e rfl) λ_=>aP (bZ (k:=decide (0<(sts h).length)) (bM (aD (aC rfl) aN) (by rw[mQ,P]) rfl).e aJ.e Q).e rfl) λH2 W=>?_));have r:=O.trans W;have d2:=d.same r;have X:=t.same r;have o:=o.same W λ_ z=>z;by_cases hc:(b&&decide (0<(sts h).length))=Z7
 .rw[tw hc];exact zlg f i m0 fx d2 X G o (t8 (au.mp hc).2) λF ⟨k,s,ps⟩=>q F A ds fs _ (ps.from r) (j5 _) (.inr rfl) (Vw h dy s k)
 .rw[tx hc];refine fU Z ?_;obtain⟨n2,Bv,e2⟩:=zu (ρ:=wM rs h ns c g dy (Z9 (.od,.list (z0o (sts h)))::ay 6 Z8)) c (k:=2) dc dc rfl;refine dX (dJ f i (iT d2 X.tl (.da o (dZ [I,J,y,m,j,l]))) (aH (aC rfl) (bK e2.e aJ.e (eM dc) rfl).e (qN (by omega) (by rw[fx.l8];omega)) rfl).e λvc H3 s3 rc=>?_);have C:=r.trans s3;have hs:=fx.at (k:=n2%5) (by omega) (by omega);generalize ns.getD (n2%5).toNat ⟨#[]⟩=s at rc hs;have o:=o.same s3 λ_ z=>z;obtain⟨n3,Xl,e3⟩:=zu (ρ:=wM rs h ns c g dy (Z9 (.od,.list (z0o (sts h)))::ay 6 Z8)) c (k:=3) dc dc rfl;refine dX (dJ f i (iT (d.same C) (t.tl.same C) (.da o (dZ [I,J,Z9 vc,m,j,l]))) (aH (aC rfl) (bK aJ.e (bK e3.e aJ.e (eM dc) rfl).e rfl rfl).e (qN (by omega) (by rw[fx.l8];omega)) rfl).e λvw H4 T U=>?_);have D:=C.trans T;obtain⟨p,hp,ep⟩:=F6 fx.nd (by rw[fx.l8];decide) c g;refine dX (dJ f i (iT (d.same D) (t.tl.same D) (.da (o.same T λ_ z=>z) (dZ [I,J,Z9 vc,Z9 vw,j,l]))) (bW (aD (aC rfl) (aD (aC rfl) (aD (aC rfl) aN))) rfl ep (mR p)).e λvm H5 V rm=>?_);have E:=D.trans V;exact zh6 hF f0 f1 fx (d.same E) (t.same E) hB hb G (rc.same (T.trans V) λ_ z=>z) (U.same V λ_ z=>z) rm hp hs λF N u v w ps P hd hy=>q F N u v w (ps.from E) P hd hy
namespace L4
abbrev rQ (k:Int):C:=.call 0 "_law_pick" (.cons (.var 5) (.cons (.int k) .nil))
abbrev Mr (d:C):C:=.call 2 "_law_stood" (.cons (.var 1) (.cons (.var 2) (.cons (.var 7) (.cons (.var 9) (.cons d .nil)))))
abbrev Mu (i:Nat):C:=.call 3 "_law_bound" (.cons (.var 2) (.cons (.var i) (.cons (.var 8) .nil)))
abbrev Mv:WS:=.seq (.asg 12 (.aX (Mr (.bin .Pow (.int 10) (.int 40)))))
 (.seq (.bN (.wd (.tc .NotEq (.qR (.raw 0) 0 (.cons (.raw 7) (.cons (.raw 9) .nil))) (.raw 12)) (.tc .NotEq (.wg (.raw 0) 0 (.cons (.raw 7) (.cons (.raw 9) .nil)) (.raw 4)) (.raw 10))) Hl.rF .nil)
 (.seq (.bN (.not (.jV (.gO 0 (.cons (.qR (.raw 0) 1 (.cons (.raw 7) (.cons (.raw 9) (.cons (.raw 8) .nil)))) (.cons (.aX (Mu 12)) .nil))))) Hl.rF .nil) .nil))
abbrev Mw:WS:=.seq (.asg 10 (.aX (Mr (.var 4))))
 (.seq (.asg 11 (.cC (.raw 0) 0 (.cons (.raw 7) (.cons (.raw 9) (.cons (.raw 4) .nil)))))
 (.seq (.bN (.tp (.or (.not (.tv (.fY (.var 11) ["list"]))) (.tv (.cmp .NotEq (.var 11) (.var 10))))) Hl.rF .nil)
 (.seq (.bN (.not (.jV (.gO 0 (.cons (.cC (.raw 0) 1 (.cons (.raw 7) (.cons (.raw 9) (.cons (.raw 8) (.cons (.raw 4) .nil))))) (.cons (.aX (Mu 10)) .nil))))) Hl.rF .nil)
 (.seq (.app (.raw 11) (.aX (.int 3))) Mv))))
def dg:WS:=.seq (.asg 7 (.aX (.ix (.var 3) (.bin .Mod (rQ 26) (.int 5)))))
 (.seq (.asg 8 (.aX (.call 1 "_law_case" (.cons (.var 3) (.cons (.var 5) (.cons (.int 28) (.cons (.var 6) .nil)))))))
 (.seq (.gB 9 (.aX (.lst (.cons (.ix (.var 3) (.bin .Add (.int 5) (.bin .Mod (rQ 27) (.int 2)))) .nil))) Mw) (.seq (.ret (.aX (.bl Z7))) .nil)))
end L4
abbrev Φy:List Fn:=[iA,wC,Bp,FJ]
structure PhD (φ:dN):Prop where
 dy:∀d:Int,φ.dy (.int d)=Z7
 sd:∀f (d:Int),oJ f->φ.sd f (.int d)=wH f d
def DyB (h:Hd)(m:Int):Prop:=∀f∈h.ft,∀r∈f,oQ r<=m
theorem VE (hd:PhD a)(ok:Hok a h)(c:DyB h m):stg a h s w (.int m)=stg a h s w .none:=by
 unfold stg lV
 congr 1
 refine km λk d=>?_;have hm:=aq (Hd.fP (ok.len▸dq.mp d));have hf:=ok.fo _ hm;have hr:=c _ hm;rw[hd.sd _ _ hf,a.s0]
 congr 1
 rcases zr hf with⟨s,n,x,e⟩|⟨s,n,x,g,b,i,e⟩
 .rw[e]at hr ⊢;have f:n<=m:=hr _ (.head _);show(decide (n<=m)&&Z7)=Z7;rw[ua f];rfl
 .rw[e]at hr ⊢;have j:b<=m:=hr _ (.tail _ (.head _));show(decide (n<=m)&&(Z6||decide (m<b)))=Z6;rw[ub (by omega:¬m<b),p8,Bool.and_false]
theorem VF (q:wT Z a d H λc e=>if c=Z7 then R Z7 e else wT Z b d e R):wT Z (.wd a b) d H R:=q
def spDg (φ:dN)(K:Z5)(HC CC:Addr):Sp:=λvs H Q _=>∃x A a ds fs h rs ns vr vn vk c g dd B,vs=[.ref x,vr,.ref a,vn,.int dd,vk,.int g]/\Fx2 rs ns/\Dd K H B rs ns c vr vn vk/\Bo φ K HC CC H x A a ds fs h rs/\h.en.length<800/\DyB h (10 ^ 40)/\∀H',Same H H'->Q (.bl Z7) H'
section
variable {φ:dN}{Z:Wc}{HC CC:Addr}{H:Hp}{x:Addr}{A:Ha}{h:Hd}
abbrev σg (x:Addr)(vr:V)(a:Addr)(vn:V)(dd:Int)(vk:V)(g:Int)(tl:L2.St):L2.St:=Z9 (.ref x)::Z9 vr::Z9 (.ref a)::Z9 vn::Z9 (.int dd)::Z9 vk::Z9 (.int g)::tl
abbrev BA (rs:List Cw)(h:Hd)(ns:List Str)(dd:Int)(c:Int×Bool)(g:Int)(tl:Rho):Rho:=Z8::Z9 (.od,.list (rs.map cwD))::Z9 (.od,.list (dY h))::Z9 (.od,.list (ns.map .str))::Z9 (.od,.int dd)::Z9 (.od,cV c)::Z9 (.od,.int g)::tl
theorem iU {K:Z5}(d:Dd K H B rs ns c e f i)(l:Les K H a k fs h)(t:Sl K H tl b):Sl K H (σg x e a f j i g tl) (BA rs h ns j c g b):=.no (.da d.rr (.da l.rep (.da d.rn (.iS (.da d.rk (.iS t))))))
theorem Mx (c:Int×Bool)(h0:0<=k)(h1:k<=100)(h4:ρ[5]?=Z9 (Z9 (.od,cV c))):∃n,(0<=n/\n<60)/\Vv [] Φy (L4.rQ k) ρ (.int n):=by obtain⟨n,hn,e⟩:=vz c h0 h1;exact⟨n,hn,bW (aD (aC h4) (aD aJ.e aN)) rfl e rfl⟩
theorem My {ks:List Nat}(a:∀k∈ks,∃q,GR q/\(h.at k).2.2=mr q)(cs:CS f b)(c:ks.length<=1000):z95 [mC h ks (cs2 f b),mC h ks (cs2 f b)]=.ok (.fr,.bool Z7):=Vm ((Mf a cs c).imp (λz=>z.1) λ⟨_,k,b,_,z,_⟩=>⟨sd b,k,z⟩)
theorem Gi:(stg φ h s w dy).length<=h.en.length:=by refine bj (cn _ _) (bj (cn _ _) ?_);rw[cx];simp_all
structure At (φ:dN)(Z:Wc)(HC CC:Addr)(σ:L2.St)(H:Hp)(x:Addr)(A:Ha)(h:Hd)(vc vw v8:V)(s w:Str)(f b:P):Prop where
 th:Hou Z.K HC CC H x A h
 ok:Hok φ h
 lt:h.en.length<800
 rc:Rep Z.K H AnyB vc (.str s)
 rw:Rep Z.K H AnyB vw (.str w)
 r8:Rep Z.K H AnyB v8 (cs2 f b)
 hc:z1j h.es s=Z7
 cs:CS f b
theorem At.same {a:V}(t:At φ Z HC CC σ H x A h c a d s w f b)(z:Same H e):At φ Z HC CC σ e x A h c a d s w f b:=⟨t.th.same z,t.ok,t.lt,t.rc.same z λ_ z=>z,t.rw.same z λ_ z=>z,t.r8.same z λ_ z=>z,t.hc,t.cs⟩
theorem zlj {r:V}(v:Z.Κ=[])(y:Z.Φ=Φy)(hF:PhL φ)(L:PhD φ)(f0:Z.fn[0]?=Z9 (spD Z.K 2 z95))(d0:Z.md[0]?=Z9 (HC,("standing":Str),spSt φ Z.K HC CC Z.mg))(d1:Z.md[1]?=Z9 (HC,("bound":Str),spBo φ Z.K HC CC))(k0:Z.mq[0]?=Z9 (HC,("standing":Str),spSt φ Z.K HC CC Z.mg))(fx:Fx2 rs ns)(d:Dd Z.K H B rs ns c M N O)(l:Les Z.K H a ds fs h)(C:h.es=esC rs)(hy:DyB h (10 ^ 40))(u:At φ Z HC CC (σg x M a N j O g []) H x A h vc r v8 s w f b)(P:Rep Z.K H AnyB m (.list (z0o (stg φ h s w (.int j)))))
  (q:∀H' n,Same H H'->D0.nx (σg x M a N j O g [Z9 vc,Z9 v8,Z9 r,Z9 m,Z9 v11,n]) H'):wS Z L4.Mv D0 (σg x M a N j O g [Z9 vc,Z9 v8,Z9 r,Z9 m,Z9 v11,n]) H:=by
 have Q:=(au.mp u.hc).2;have g1:=(au.mp u.hc).1;have lt:=u.lt;have R:Bp [.list (rs.map cwD),.list (dY h),.str s,.str w,.int (10 ^ 40)]=.ok (.fr,.list (z0o (stg φ h s w .none))):=by rw[L9 φ fx.wL (C▸Q) C (by omega) u.ok.len u.ok.fo λf hf=>L.sd f _ hf,VE L u.ok hy]
 refine dX (dJ v y (iU d l (.da u.rc (.da u.r8 (.da u.rw (dZ [Z9 m,Z9 v11,n]))))) (eX (aD (aC rfl) (aD (aC rfl) (aD (aC rfl) (aD (aC rfl) (aD (bK aJ.e aJ.e rfl rfl).e aN))))) rfl R) λXm H1 s1 D=>?_);have E:=u.same s1;obtain⟨is,i1,i2⟩:=E.th.bQ;refine eP (lX (VF (wo (E2 d0 (aF rfl ⟨x,A.dx,is,rfl,i1,i2 _ dc dc dc dc,aI (aF rfl (aI (aF rfl (bJ ⟨x,A,h,vc,.str s,r,w,.aO,.none,AnyB,rfl,E.th,E.ok,E.rc,E.rw,rfl,φ.d0,?_⟩))))⟩)))));rw[tw g1];refine⟨s,rfl,Q,λH2 p S n2 e2=>aF rfl ?_⟩;have rp:Rep Z.K H2 AnyB (.ref p) (.list (z0o (stg φ h s w .none))):=⟨p,_,rfl,.inl ⟨e2,trivial⟩,qY⟩;refine mP rp (D.same S λ_ z=>z) (yT (Ft _)) λH3 s3=>⟨Z6,rfl,?_⟩;have o:=s1.trans (S.trans s3);have F:=u.same o;obtain⟨T,j1,j2⟩:=F.th.bQ;refine wo (TH k0 (aF rfl ⟨x,A.dx,T,rfl,j1,j2 _ dc dc dc dc,aI (aF rfl (aI (aF rfl (bJ (aF rfl ⟨x,A,h,vc,.str s,r,w,.int j,.int j,AnyB,rfl,F.th,F.ok,F.rc,F.rw,rfl,L.dy j,?_⟩)))))⟩));rw[tw g1];refine⟨s,rfl,Q,λH4 p4 U n4 e4=>aF rfl ?_⟩;have VG:Rep Z.K H4 AnyB (.ref p4) (.list (z0o (stg φ h s w (.int j)))):=⟨p4,_,rfl,.inl ⟨e4,trivial⟩,qY⟩;refine mP VG (P.same (o.trans U) λ_ z=>z) (yT (Ft _)) λH5 s5=>⟨Z6,rfl,fU Z ?_⟩;have G:=o.trans (U.trans s5);have t:=u.same G;obtain⟨VH,l1,l2⟩:=t.th.bQ;have I:∀k∈stg φ h s w .none,∃q,GR q/\(h.at k).2.2=mr q:=λk J=>zp u.ok hF (vg J);refine eP (lX ?_);refine u1 (tH f0 (aI (E2 d1 (aF rfl ⟨x,A.dx,VH,rfl,l1,l2 _ dc dc dc dc,aI (aF rfl (aI (aF rfl (aI (aF rfl (bJ ⟨x,A,h,vc,s,r,w,v8,f,b,.aO,.none,AnyB,rfl,t.th,t.ok,by omega,t.rc,t.rw,t.r8,u.cs,rfl,φ.d0,u.hc,λH6 v6 s6 r6=>?_⟩))))))⟩))));have i:=G.trans s6;refine aI (dJ v y (iU (d.same i) (l.same i) (.no (.da (u.r8.same i λ_ z=>z) (.no (.no (.no (.da (D.same (S.trans (s3.trans (U.trans (s5.trans s6)))) λ_ z=>z) .nil))))))) (eX (aD (aC rfl) (aD (aC rfl) (aD (aC rfl) aN))) rfl (L8 (λk J=>⟨vg J,I k J⟩) u.cs)) λv7 H7 s7 r7=>bJ ⟨AnyB,[mC h (stg φ h s w .none) (cs2 f b),mC h (stg φ h s w .none) (cs2 f b)],_,rfl,Reps.cons (r6.same s7 λ_ z=>z) (Reps.cons r7 rfl),My I u.cs (bj Gi (by omega)),λv9 H9 s9 r9=>?_⟩);cases r9;exact⟨Z7,rfl,fU Z (fU Z (q H9 _ (i.trans (s7.trans s9))))⟩
end
theorem zmv {I:V}(r:Z.Κ=[])(t:Z.Φ=Φy)(hF:PhL i)(P:PhD i)(f0:Z.fn[0]?=Z9 (spD Z.K 2 z95))(m0:Z.me[0]?=Z9 (n,("standing":Str),spSt i Z.K n J Z.mg))(m1:Z.me[1]?=Z9 (n,("bound":Str),spBo i Z.K n J))(d0:Z.md[0]?=Z9 (n,("standing":Str),spSt i Z.K n J Z.mg))(d1:Z.md[1]?=Z9 (n,("bound":Str),spBo i Z.K n J))(k0:Z.mq[0]?=Z9 (n,("standing":Str),spSt i Z.K n J Z.mg))(fx:Fx2 rs ns)(d:Dd Z.K H B rs ns c vr vn vk)(l:Les Z.K H a ds fs h)(C:h.es=esC rs)(hy:DyB h (10 ^ 40))(u:At i Z n J (σg x vr a vn j vk g []) H x A h Q I v8 s w f b)
  (q:∀R pK jY m,Same H R->D0.nx (σg x vr a vn j vk g [Z9 Q,Z9 v8,Z9 I,pK,jY,m]) R):wS Z L4.Mw D0 (σg x vr a vn j vk g [Z9 Q,Z9 v8,Z9 I,pK,jY,m]) H:=by
 have he:=(au.mp u.hc).2;have lt:=u.lt;refine dX (dJ r t (iU d l (.da u.rc (.da u.r8 (.da u.rw (dZ [pK,jY,m]))))) (eX (aD (aC rfl) (aD (aC rfl) (aD (aC rfl) (aD (aC rfl) (aD (aC rfl) aN))))) rfl (L9 i fx.wL (C▸he) C (by omega) u.ok.len u.ok.fo λf hf=>P.sd f _ hf)) λv10 H1 s1 D=>?_);have L:=u.same s1;obtain⟨is,i1,i2⟩:=L.th.bQ;refine dX (fE m0 (aF rfl ⟨x,A.dx,is,rfl,i1,i2 _ dc dc dc dc,aI (aF rfl (aI (aF rfl (aI (aF rfl (bJ ⟨x,A,h,Q,.str s,I,w,.int j,.int j,AnyB,rfl,L.th,L.ok,L.rc,L.rw,rfl,P.dy j,?_⟩))))))⟩));rw[tw ((au.mp u.hc).1)];refine⟨s,rfl,he,λH2 p S n2 e2=>?_⟩;have E:=s1.trans S;have rp:Rep Z.K H2 AnyB (.ref p) (.list (z0o (stg i h s w (.int j)))):=⟨p,_,rfl,.inl ⟨e2,trivial⟩,qY⟩;refine eP (lX (zo r t (iU (d.same E) (l.same E) (.no (.no (.no (.da (D.same S λ_ z=>z) (.da rp (dZ [m]))))))) (oE (mM (k:=Z7) (aP (AI (aC rfl)).e rfl)) λ_=>aP (bZ (aC rfl) (aC rfl) (yT (Ft _))).e rfl) λH3 T=>fU Z ?_));have M:=E.trans T;have G:=u.same M;obtain⟨VI,j1,j2⟩:=G.th.bQ;have N:∀k∈stg i h s w (.int j),∃q,GR q/\(h.at k).2.2=mr q:=λk U=>zp u.ok hF (vg U);refine eP (lX ?_);refine u1 (tH f0 (aI (fE m1 (aF rfl ⟨x,A.dx,VI,rfl,j1,j2 _ dc dc dc dc,aI (aF rfl (aI (aF rfl (aI (aF rfl (aI (aF rfl (bJ ⟨x,A,h,Q,s,I,w,v8,f,b,.int j,.int j,AnyB,rfl,G.th,G.ok,by omega,G.rc,G.rw,G.r8,u.cs,rfl,P.dy j,u.hc,λH4 v4 s4 r4=>?_⟩))))))))⟩))));have F:=M.trans s4;refine aI (dJ r t (iU (d.same F) (l.same F) (.no (.da (u.r8.same F λ_ z=>z) (.no (.da (D.same (S.trans (T.trans s4)) λ_ z=>z) (dZ [_,m])))))) (eX (aD (aC rfl) (aD (aC rfl) (aD (aC rfl) aN))) rfl (L8 (λk U=>⟨vg U,N k U⟩) u.cs)) λv5 H5 s5 r5=>bJ ⟨AnyB,[mC h (stg i h s w (.int j)) (cs2 f b),mC h (stg i h s w (.int j)) (cs2 f b)],_,rfl,Reps.cons (r4.same s5 λ_ z=>z) (Reps.cons r5 rfl),My N u.cs (bj Gi (by omega)),λv6 H6 s6 r6=>?_⟩);cases r6;have O:=s4.trans (s5.trans s6);have e6:=(T.trans O) _ _ e2;refine⟨Z7,rfl,fU Z (eP (rD (aF rfl ⟨.inl ⟨rfl,_,SqL.of e6⟩,kR λH7 s7=>?_⟩)))⟩;refine⟨p,_,.int 3,rfl,rfl,s7 _ _ e6,?_,?_⟩
 .have :=Gi (φ:=i) (h:=h) (s:=s) (w:=w) (dy:=.int j);unfold oK;rw[ae,cb];omega
 have sA:Same H1 (upd H7 p (.lst (oK (stg i h s w (.int j))++[.int 3]))):=λy o e=>by rw[aG λz=>by rw[z,n2]at e;cases e];exact(S.trans (T.trans (O.trans s7))) y o e
 have v:=s1.trans sA;exact zlj r t hF P f0 d0 d1 k0 fx (d.same v) (l.same v) C hy (u.same v) (D.same sA λ_ z=>z) λR m s'=>q R _ _ _ (v.trans s')
theorem zno (j:Z.Κ=[])(l:Z.Φ=Φy)(hF:PhL φ)(hD:PhD φ)(f0:Z.fn[0]?=Z9 (spD Z.K 2 z95))(m0:Z.me[0]?=Z9 (i,("standing":Str),spSt φ Z.K i CC Z.mg))(m1:Z.me[1]?=Z9 (i,("bound":Str),spBo φ Z.K i CC))(d0:Z.md[0]?=Z9 (i,("standing":Str),spSt φ Z.K i CC Z.mg))(d1:Z.md[1]?=Z9 (i,("bound":Str),spBo φ Z.K i CC))(k0:Z.mq[0]?=Z9 (i,("standing":Str),spSt φ Z.K i CC Z.mg))(fx:Fx2 rs ns)(d:Dd Z.K H B rs ns c T U vk)(t:Bo φ Z.K i CC H x A a ds fs h rs)(hl:h.en.length<800)(hy:DyB h (10 ^ 40))
  (q:∀o,Same H o->D0.rt (.bl Z7) o):wS Z L4.dg D0 (σg x T a U J vk g [Z8,Z8,Z8,Z8,Z8,Z8]) H:=by
 obtain⟨n,hn,e⟩:=Mx (ρ:=BA rs h ns J c g (ay 6 Z8)) c (k:=26) dc dc rfl;refine dX (dJ j l (iU d t.tl (dZ [Z8,Z8,Z8,Z8,Z8,Z8])) (aH (aC rfl) (bK e.e aJ.e (eM dc) rfl).e (qN (by omega) (by rw[fx.l8];omega)) rfl).e λM H1 N rc=>?_);have hs:=fx.at (k:=n%5) (by omega) (by omega);generalize ns.getD (n%5).toNat ⟨#[]⟩=s at rc hs;obtain⟨f,b,⟨⟨pf,lf⟩,pa,la⟩,ec⟩:=LH fx.nd c (k:=28) dc dc;refine dX (dJ j l (iU (d.same N) (t.tl.same N) (dZ [Z9 M,Z8,Z8,Z8,Z8,Z8])) (bW (aD (aC rfl) (aD (aC rfl) (aD aJ.e (aD (aC rfl) aN)))) rfl ec (rJ _ _)).e λW H2 s2 r8=>?_);have p:=N.trans s2;obtain⟨m,hm,em⟩:=Mx (ρ:=BA rs h ns J c g (ay 6 Z8)) c (k:=27) dc dc rfl;obtain⟨w,ew⟩:∃w,Vv [] Φy (.ix (.var 3) (.bin .Add (.int 5) (.bin .Mod (L4.rQ 27) (.int 2)))) (BA rs h ns J c g (ay 6 Z8)) (.str w):=⟨_,aH (aC rfl) (bK aJ.e (bK em.e aJ.e (eM dc) rfl).e rfl rfl).e (qN (by omega) (by rw[fx.l8];omega)) rfl⟩;refine eP ?_;obtain⟨L,O⟩:∃L:V,L=.str w:=⟨_,rfl⟩;refine z6x (λy k F o=>Same H2 o/\SqL Z.K o y [L]/\Rep Z.K o AnyB L (.str w)/\∃P u C D,F=σg x T a U J vk g [Z9 M,Z9 W,P,u,C,D]) (λR kk=>?_) (λ_ _ _ _ z=>z.2.1) (λy k v F o hv z D2 Va nx=>?_) λy F o z=>?_
 .refine dJ j l (iU (d.same p) (t.same p).tl (dZ [Z9 M,Z9 W,Z8,Z8,Z8,Z8])) (Ev.of (kO (bG ew eB))) λv H3 E r3=>?_;obtain⟨y,vs,rfl,hq,v9,IG,rfl,⟨rfl,so⟩,rfl⟩:=mL r3;subst O;exact kk y H3 hq ⟨E,hq,⟨rfl,so⟩,Z8,Z8,Z8,Z8,rfl⟩
 .obtain⟨E,sq,Q,P,u,C,D,rfl⟩:=z;cases k with
  |succ k=>cases hv
  |zero=>cases hv;have G:=p.trans E;have t3:=t.same G;exact zmv j l hF hD f0 m0 m1 d0 d1 k0 fx (d.same G) t3.tl t.es hy ⟨t3.th,t.ok,hl,rc.same (s2.trans E) λ_ z=>z,Q,r8.same E λ_ z=>z,by rw[t.es];exact fx.cH hs,pf,pa,lf,la⟩ λS u C D I=>nx _ S ⟨E.trans I,SqL.same sq I,Q.same I λ_ z=>z,_,_,_,_,rfl⟩
 .obtain⟨E,sq,Q,P,u,C,D,rfl⟩:=z;exact tM ⟨_,F0 o,(.fr,.bool Z7),wm,rfl,λv S I r=>by cases r;exact q S (p.trans (E.trans I))⟩
namespace L4
abbrev Mz:C:=.ix (.ix (.var 6) (.var 12)) (.str "fate")
abbrev VJ:WS:=.seq (.asg 13 (.cC (.raw 5) 0 (.cons (.raw 12) .nil)))
 (.seq (.bN (.tp (.or (.not (.tv (.fY (.var 13) ["list"]))) (.tv (.cmp .NotEq (.var 13) Mz)))) Hl.rF .nil)
 (.seq (.yL (.raw 13))
 (.seq (.bN (.tc .NotEq (.cC (.raw 5) 0 (.cons (.raw 12) .nil)) (.aX Mz)) Hl.rF .nil) .nil)))
abbrev l3:WS:=.seq (.bH (.nm 12) (.eI (.cons (.bi "len" (.cons (.var 6) .nil)) .nil)) VJ) (.seq (.ret (.aX (.bl Z7))) .nil)
end L4
abbrev ΦL:List Fn:=[zh,Fz,FC,Bn,Fw,iA,kT]
theorem VL (q:wE Z o a H λx b=>tyV Z.K "list" x b/\zU x [] b λ_ c=>d.nx a c):wS Z (.yL o) d a H:=q
section
variable {H:Hp}{rs:List Cw}{ns:List Str}
variable {v0 vr vn:V}{xs:List Int}{B:Ad->Prop}
structure Dt (K:Z5)(H:Hp)(B:Ad->Prop)(xs:List Int)(rs:List Cw)(ns:List Str)(v0 vr vn:V):Prop where
 r0:Rep K H B v0 (.list (xs.map .int))
 rr:Rep K H B vr (.list (rs.map cwD))
 rn:Rep K H B vn (.list (ns.map .str))
theorem Dt.same {K:Z5}(d:Dt K H B xs rs ns v0 vr vn)(s:Same H a):Dt K a B xs rs ns v0 vr vn:=⟨d.r0.same s λ_ z=>z,d.rr.same s λ_ z=>z,d.rn.same s λ_ z=>z⟩
theorem Dt.keep {K:Z5}(d:Dt K H B xs rs ns v0 vr vn)(k:∀b o,H b=Z9 o->(B (Z9 b)\/Fix o)->a b=Z9 o):Dt K a B xs rs ns v0 vr vn:=⟨Rep.keep k (λ_ z=>z) _ d.r0,Rep.keep k (λ_ z=>z) _ d.rr,Rep.keep k (λ_ z=>z) _ d.rn⟩
abbrev jZ (v0 vn:V)(f:Bool)(g:Int)(vr:V)(x a:Addr)(tl:L2.St):L2.St:=Z9 v0::Z9 vn::Z9 (.bl f)::Z9 (.int g)::Z9 vr::Z9 (.ref x)::Z9 (.ref a)::tl
abbrev zx (xs:List Int)(ns:List Str)(f:Bool)(g:Int)(rs:List Cw)(h:Hd)(tl:Rho):Rho:=Z9 (.od,.list (xs.map .int))::Z9 (.od,.list (ns.map .str))::Z9 (.od,.bool f)::Z9 (.od,.int g)::Z9 (.od,.list (rs.map cwD))::Z8::Z9 (.od,.list (dY h))::tl
theorem iV {K:Z5}(d:Dt K H B xs rs ns v0 vr vn)(l:Les K H a ds fs h)(t:Sl K H tl VM):Sl K H (jZ v0 vn f g vr x a tl) (zx xs ns f g rs h VM):=.da d.r0 (.da d.rn (.da (B:=AnyB) rfl (.iS (.da d.rr (.no (.da l.rep t))))))
theorem zq2 (n:Z.Κ=[])(C:Z.Φ=ΦL)(h0:Z.me[0]?=Z9 (HC,("fate":Str),spFt φ Z.K HC CC Z.mg))(d:Dt Z.K H B xs rs ns v0 vr vn)(t:Bo φ Z.K HC CC H x A a ds fs h rs)(hb:h.en.length<900)(q:∀l,Same H l->D0.rt (.bl Z7) l):
  wS Z L4.l3 D0 (jZ v0 vn f g vr x a [o7,o8,o9,pK,jY,c,j]) H:=by
 refine eP ⟨_,F0 H,_,(iV d t.tl (dZ [o7,o8,o9,pK,jY,c,j])).so,by rw[n];exact sX (aD (bM (aD (aC rfl) aN) (by rw[mQ,vD]) rfl).e aN) (by rw[sW (by omega) (by omega),fh]),λJ B' H4 s4 hB Q=>?_⟩;have s:((bw h.en.length).map λ(i:Nat)=>ZU i).length=h.en.length:=by rw[ae,cx]
 let W:Nat->Nat->L2.St->Hp->Prop:=λi k D l=>k=h.en.length-i/\i<=h.en.length/\Same H4 l/\∃c j,D=jZ v0 vn f g vr x a [o7,o8,o9,pK,jY,c,j]
 refine⟨W,⟨_,rfl,c9 _,Same.refl H4,c,j,rfl⟩,?_⟩
 rintro i k D l ⟨rfl,hi,E,c,j,rfl⟩
 have F:=s4.trans E;by_cases b:i<h.en.length
 .refine .inr ⟨Q.go l (Kp.of E) i (by rw[s];exact b),W (i+1) (h.en.length-(i+1)),λtX H2 w=>⟨_,by omega,w⟩,λz R hy=>?_⟩;obtain⟨s6,e,G,ry⟩:=Q.gY l (Kp.of E) i z R (by rw[s];exact b) hy;rw[ao,ee b]at G;cases G;refine Gb ry (by show 12<14;decide) λw r9=>?_;cases r9;have u:=F.trans s6;have t6:=t.same u;obtain⟨is,i1,i2⟩:=t6.th.bQ;have I:pF h i=true:=by unfold pF;simp;omega
  have L:=t.ok.fo _ (aq (Hd.fP (t.ok.len▸b)));refine dX (fE h0 (aF rfl ⟨x,A.dx,is,rfl,i1,i2 _ dc dc dc dc,aI (aF rfl (bJ ⟨x,A,h,i,rfl,t6.th,t.ok,?_⟩))⟩));rw[tw I];intro H7 v7 s7 r7;have M:=u.trans s7;refine eP (lX (zo n C (iV (d.same M) (t.tl.same M) (.no (.no (.no (.no (.no (.iS (.da r7 .nil)))))))) (oE (mM (k:=Z7) (aP (AI (aC rfl)).e rfl)) λ_=>aP (bZ (aC rfl) (iR (iR (aC rfl) (aC rfl) (tQ b)) cP.e (jX _ _)) (yT (E4 L))).e rfl) λH8 s8=>fU Z ?_));obtain⟨p,ws,rfl,m,rws⟩:=r7
  obtain⟨m,np⟩:H7 p=Z9 (.lst ws)/\R p=none:=by
   rcases m with m|m
   .exact⟨m.1,m.2⟩
   .exact m.2.elim
  have e8:=s8 _ _ m;refine eP (VL (aF rfl ⟨.inl ⟨rfl,_,SqL.of e8⟩,p,_,rfl,rfl,e8,?_⟩));have S:Same R (upd H8 p (.lst [])):=λy o e=>by rw[aG λz=>by rw[z,np]at e;cases e];exact(s7.trans s8) y o e
  generalize upd H8 p (.lst [])=H9 at S;have N:=u.trans S;have t9:=t.same N;obtain⟨T,j1,j2⟩:=t9.th.bQ;refine eP (lX (wo (fE h0 (aF rfl ⟨x,A.dx,T,rfl,j1,j2 _ dc dc dc dc,aI (aF rfl (bJ ⟨x,A,h,i,rfl,t9.th,t.ok,?_⟩))⟩))));rw[tw I];intro HA vA O rA;have P:=N.trans O;exact dJ n C (iV (d.same P) (t.tl.same P) (.no (.no (.no (.no (.no (.iS (.no .nil)))))))) (iR (iR (aC rfl) (aC rfl) (tQ b)) cP.e (jX _ _)) λvB HB sB rB=>mP (rA.same sB λ_ _=>trivial) rB (yT (E4 L)) λXn sC=>⟨_,rfl,fU Z (fU Z ⟨rfl,b,E.trans (s6.trans (S.trans (O.trans (sB.trans sC)))),_,_,rfl⟩)⟩
 .have U:i=h.en.length:=by omega
  refine .inl ⟨by have:=Q.stop l (Kp.of E);rw[s]at this;rw[U];exact this,?_⟩;exact tM ⟨_,F0 l,(.fr,.bool Z7),wm,rfl,λv H5 s5 r=>by cases r;exact q H5 (F.trans s5)⟩
end
namespace L4
abbrev ca (k:Int):C:=.call 0 "_law_cell_at" (.cons (.var 0) (.cons (.int k) .nil))
abbrev VN:C:=.eI (.cons (.bin .Mod (ca 0) (.int 3)) (.cons (.bi "len" (.cons (.var 9) .nil)) (.cons (.int 3) .nil)))
abbrev MA (j:Int):W:=.aX (.ix (.ix (.var 9) (.var 10)) (.int j))
abbrev VO:WS:=.seq (.bN (.not (.jV (.gO 1 (.cons (.raw 5) (.cons (.raw 4) (.cons (.raw 6) (.cons (.raw 1) (.cons (MA 0) (.cons (MA 1) (.cons (.raw 3) .nil)))))))))) Hl.rF .nil) .nil
abbrev l2:WS:=.seq (.bH (.nm 10) VN VO) l3
end L4
def dyD (p:Int×Int×Bool):D:=.tuple [.int p.1,cV p.2]
theorem zy (p:Int×Int×Bool):imm (dyD p)=true:=by show imms [.int p.1,cV p.2]=Z7;rw[imms,imms,rM];rfl
theorem Gj (g:0<=a)(c:a<=1000)(h:0<=b)(d:b<=1000):∃ks:List Nat,ks.length<=1000/\(∀k∈ks,(k:Int)<b)/\hP [.int a,.int b,.int 3]=.ok (ks.map λ(k:Nat)=>ZU k):=by
 refine⟨(bw (if a<b then((b-a-1)/3+1).toNat else 0)).map λ(i:Nat)=>(a+i*3).toNat,?_,λk e=>?_,?_⟩
 .rw[ae,cx];split<;>omega
 .obtain⟨i,f,rfl⟩:=bz.mp e;have:=dq.mp f;split at this<;>omega
 .show(if -aT<=a/\b<=aT/\a<=aT/\ -aT<=b/\0<3/\(3:Int)<=aT then _ else _)=_;rw[tw (by unfold aT;omega),ei]
  congr 1
  refine ls λi _=>?_;show ZU (a+i*3)=ZU (((a+i*3).toNat:Nat):Int)
  congr 1
  omega
theorem zrc {L:List (Int×Int×Bool)}(v:Z.Κ=[])(l:Z.Φ=ΦL)(h0:Z.me[0]?=Z9 (HC,("fate":Str),spFt φ Z.K HC CC Z.mg))(f1:Z.fn[1]?=Z9 (spDg φ Z.K HC CC))(fx:Fx2 rs ns)(d:Dt Z.K H B N rs ns O vr vn)(t:Bo φ Z.K HC CC H x A a ds fs h rs)(hb:h.en.length<800)(hy:DyB h (10 ^ 40))(r9:Rep Z.K H AnyB v9 (.list (L.map dyD)))(hL:L.length<=1000)(P:N.length<=63)(q:∀u,Same H u->D0.rt (.bl Z7) u):
  wS Z L4.l2 D0 (jZ O vn f g vr x a [Q,R,Z9 v9,c,m,o,r]) H:=by
 obtain⟨n0,e0⟩:∃n,zh [.list (N.map .int),.int 0]=.ok (.fr,.int n):=FU N P dc;obtain⟨ks,tK,S,ek⟩:=Gj (a:=n0%3) (b:=L.length) (by omega) (by omega) (by omega) (by omega);refine eP ⟨_,F0 H,_,(iV d t.tl (.no (.no (.da r9 (dZ [c,m,o,r]))))).so,by rw[l];exact sX (aD ((λhr=>bK (bW (aD (aC hr) (aD aJ.e aN)) rfl e0 rfl).e aJ.e (eM dc) rfl) rfl).e (aD (bM (aD (aC rfl) aN) (by rw[mQ,ae]) rfl).e (aD aJ.e aN))) ek,λJ B' H4 s4 hB T=>?_⟩;have y:(ks.map λ(k:Nat)=>ZU k).length=ks.length:=ae _
 let W:Nat->Nat->L2.St->Hp->Prop:=λi k D u=>k=ks.length-i/\i<=ks.length/\Same H4 u/\∃c,D=jZ O vn f g vr x a [Q,R,Z9 v9,c,m,o,r]
 refine⟨W,⟨_,rfl,c9 _,Same.refl H4,c,rfl⟩,?_⟩
 rintro i k D u ⟨rfl,hi,F,c,rfl⟩
 have s:=s4.trans F;by_cases j:i<ks.length
 .refine .inr ⟨T.go u (Kp.of F) i (y▸j),W (i+1) (ks.length-(i+1)),λtX H2 w=>⟨_,by omega,w⟩,λz H6 Gk=>?_⟩;obtain⟨s6,e,G,ry⟩:=T.gY u (Kp.of F) i z H6 (y▸j) Gk;rw[ao,ac j]at G;cases G;refine Gb ry (by show 10<14;decide) λw Bw=>?_;cases Bw;have hk:=S _ (fv j);generalize ks[i]=k at hk;obtain⟨p,hp⟩:∃p,L[k]?=Z9 p:=⟨_,ac (by omega)⟩;have I:dQ (.list (L.map dyD)) (.int k)=.ok (dyD p):=tJ (by rw[ao,hp];rfl);have C:=s.trans s6;have sl:∀{H1:Hp},Same H H1->Sl Z.K H1 (jZ O vn f g vr x a [Q,R,Z9 v9,Z9 (.int k),m,o,r]) (zx N ns f g rs h [Z8,Z8,Z9 (.od,.list (L.map dyD)),Z9 (.od,.int k),Z8,Z8,Z8]):=λs1=>iV (d.same s1) (t.tl.same s1) (.no (.no (.da (r9.same s1 λ_ z=>z) (.iS (.no (.no (.no .nil)))))));refine eP (lX ?_);refine u1 ?_;show(match Z.fn[1]? with|some sp=>oZ sp [] Z.E (wA Z _)|none=>fN) (jZ O vn f g vr x a [Q,R,Z9 v9,Z9 (.int k),m,o,r]) H6 _;rw[f1];refine aI (aF rfl (aI (aF rfl (aI (aF rfl (aI (aF rfl (aI (dJ v l (sl C) (aH (aH (aC rfl) (aC rfl) I (zy p)).e aJ.e rfl rfl).e λv4 H7 s7 r4=>aI (dJ v l (sl (C.trans s7)) (aH (aH (aC rfl) (aC rfl) I (zy p)).e aJ.e rfl (rM p.2)).e λv5 H8 s8 r5=>aI (aF rfl (bJ ?_))))))))))));cases r4;have M:=C.trans (s7.trans s8);have d8:=d.same M;exact⟨x,A,a,ds,fs,h,rs,ns,vr,vn,v5,p.2,g,p.1,AnyB,rfl,fx,⟨d8.rr.weak λ_ _=>trivial,d8.rn.weak λ_ _=>trivial,r5⟩,t.same M,hb,hy,λH9 s9=>⟨Z7,rfl,fU Z (fU Z ⟨rfl,j,F.trans (s6.trans (s7.trans (s8.trans s9))),_,rfl⟩)⟩⟩
 .have pB:i=ks.length:=by omega
  refine .inl ⟨by have:=T.stop u (Kp.of F);rw[y]at this;rw[pB];exact this,?_⟩;exact zq2 v l h0 (d.same s) (t.same s) (by omega) λH5 s5=>q H5 (s.trans s5)
namespace L4
abbrev vK (k:Int):C:=.call 5 "_law_pick" (.cons (.var 11) (.cons (.int k) .nil))
abbrev VP:C:=.lst (.cons (.int 0) (.cons (.int 0) (.cons (.int 1) (.cons (.int 2) (.cons (.bin .Pow (.int 10) (.int 20)) .nil)))))
abbrev VQ:WS:=.seq (.bN (.not (.jV (.gO 0 (.cons (.raw 5) (.cons (.raw 4) (.cons (.raw 6) (.cons (.raw 1) (.cons (.raw 11) (.cons (.raw 3) (.cons (.raw 7) .nil)))))))))) Hl.rF .nil) .nil
abbrev Gn:WS:=.seq (.asg 11 (.aX (.call 4 "_law_cell" (.cons (.var 0) (.cons (.var 10) (.cons (.var 2) .nil))))))
 (.seq (.asg 7 (.aX (.bin .Add (.var 7) (.ix VP (.bin .Mod (vK 1) (.int 5))))))
 (.seq (.app (.raw 9) (.tup (.cons (.aX (.bi "max" (.cons (.int 0) (.cons (.bin .Sub (.var 7) (.bin .Mod (vK 25) (.int 2))) .nil)))) (.cons (.raw 11) .nil)))) VQ))
end L4
theorem VR (h0:0<=k)(a:k<5):∃n,(0<=n/\n<=100000000000000000000)/\dQ (.list [.int 0,.int 0,.int 1,.int 2,.int 100000000000000000000]) (.int k)=.ok (.int n):=by
 obtain rfl|rfl|rfl|rfl|rfl:k=0\/k=1\/k=2\/k=3\/k=4:=by omega
 .exact⟨0,by decide,rfl⟩
 .exact⟨0,by decide,rfl⟩
 .exact⟨1,by decide,rfl⟩
 .exact⟨2,by decide,rfl⟩
 .exact⟨100000000000000000000,by decide,rfl⟩
def Dys (K:Z5)(H:Hp)(e:Addr)(L:List (Int×Int×Bool)):Prop:=∃vs,H e=Z9 (.lst vs)/\Reps K H NoB vs (L.map dyD)
section
variable {φ:dN}{K:Z5}{HC CC:Addr}{H H':Hp}{x a e:Addr}{A:Ha}{ds fs:List Addr}{h:Hd}{rs:List Cw}{L:List (Int×Int×Bool)}
theorem Dys.keep (d:Dys K H e L)(k:∀o,H e=Z9 o->H' e=Z9 o)(k2:∀b o,H b=Z9 o->Fix o->H' b=Z9 o):Dys K H' e L:=by obtain⟨vs,h1,h2⟩:=d;exact⟨vs,k _ h1,Reps.keep (λb o e z=>k2 b o e (z.resolve_left id)) (λ_ z=>z) _ h2⟩
theorem Dys.same (d:Dys K H e L)(s:Same H H'):Dys K H' e L:=d.keep (λo=>s e o) λb o e _=>s b o e
theorem Dys.rep (d:Dys K H e L):Rep K H AnyB (.ref e) (.list (L.map dyD)):=by obtain⟨a,b,c⟩:=d;exact⟨e,a,rfl,.inl ⟨b,trivial⟩,c.weak λ_ z=>z.elim⟩
theorem Bo.zA (t:Bo φ K HC CC H x A a ds fs h rs)(f:H e=Z9 (.lst i))(g:¬Ow x A a fs e)(fr:∀b o,b≠e->H b=Z9 o->H' b=Z9 o):Bo φ K HC CC H' x A a ds fs h rs:=by
 have fx:∀b o,H b=Z9 o->Fix o->H' b=Z9 o:=λb o d z=>fr b o (λy=>by subst y;rw[f]at d;cases d;exact z) d;refine⟨t.th.keep (λb o c d=>fr b o (λy=>?_) d) fx,t.tl.keep (λb o c d=>fr b o (λy=>?_) d) fx,t.ok,t.es,t.d1,t.d2⟩
 .rcases c with c|c
  .exact g (.inl (y▸c))
  .have :=t.th.cH.ins;rw[<-c,y,f]at this;cases this
 .rcases c with c|c|c
  .exact g (.inr (.inl (y▸c)))
  .exact t.tl.LP c f y
  .exact g (.inr (.inr (y▸c)))
end
theorem MB (c:Int×Bool)(h0:0<=k)(a:k<=100)(b:ρ[11]?=Z9 (Z9 (.od,cV c))):∃n,(0<=n/\n<60)/\Vv [] ΦL (L4.vK k) ρ (.int n):=by obtain⟨n,hn,e⟩:=vz c h0 a;exact⟨n,hn,bW (aD (aC b) (aD aJ.e aN)) rfl e rfl⟩
theorem zma (hκ:Z.Κ=[])(hφ:Z.Φ=ΦL)(f0:Z.fn[0]?=Z9 (spDe φ Z.K HC CC))(fx:Fx2 rs ns)(d:Dt Z.K H B xs rs ns v0 vr vn)(t:Bo φ Z.K HC CC H x A a ds fs h rs)(dd:Dys Z.K H e L)(hB:∀b,B (Z9 b)->b≠e/\¬Ow x A a fs b)(hE:¬Ow x A a fs e)(l63:xs.length<=63)(hi:2+i<xs.length)(hen:h.en.length<=i)(hL:L.length<=i+3)(hld:∀l,h.ld=Z9 l->l<=dy)(hy:DyB h dy)(hdy:dy<=2+i*100000000000000000000)
  (q:∀H' A' kX jE h' BB L' jY,Bo φ Z.K HC CC H' x A' a kX jE h' rs->Dys Z.K H' e L'->(∀b o,b≠e->¬Ow x A a fs b->H b=Z9 o->H' b=Z9 o)->(∀b,Ow x A' a jE b->Ow x A a fs b\/H b=Z8)->h'.en.length<=i+1->L'.length<=i+4->(∀l,h'.ld=Z9 l->l<=BB)->DyB h' BB->BB<=2+(i+1:Nat)*100000000000000000000->D0.nx (jZ v0 vn f g vr x a [Z9 (.int BB),o8,Z9 (.ref e),Z9 (.int (2+i)),jY,rO,oT]) H'):
  wS Z L4.Gn D0 (jZ v0 vn f g vr x a [Z9 (.int dy),o8,Z9 (.ref e),Z9 (.int (2+i)),jY,rO,oT]) H:=by
 obtain⟨c,ec⟩:=Uy xs (k:=2+i) (by omega) (by omega) (by omega) f;refine dX (dJ hκ hφ (iV d t.tl (.iS (.no (.no (.iS (dZ [jY,rO,oT])))))) (bW (aD (aC rfl) (aD (aC rfl) (aD (aC rfl) aN))) rfl ec (rM c)).e λv11 H1 s1 Gp=>?_);have sl:∀{H2:Hp} {dy:Int},Same H1 H2->Sl Z.K H2 (jZ v0 vn f g vr x a [Z9 (.int dy),o8,Z9 (.ref e),Z9 (.int (2+i)),Z9 v11,rO,oT]) (zx xs ns f g rs h [Z9 (.od,.int dy),Z8,Z8,Z8,Z9 (.od,cV c),Z8,Z8]):=λs2=>iV (d.same (s1.trans s2)) (t.tl.same (s1.trans s2)) (.iS (.no (.no (.no (.da (Gp.same s2 λ_ z=>z) (.no (.no .nil)))))));obtain⟨n1,MC,e1⟩:=MB (ρ:=zx xs ns f g rs h [Z9 (.od,.int dy),Z8,Z8,Z8,Z9 (.od,cV c),Z8,Z8]) c (k:=1) (by decide) (by decide) rfl;obtain⟨m,hm,em⟩:=VR (k:=n1%5) (by omega) (by omega);refine dX (dJ hκ hφ (sl (Same.refl H1)) (bK (aC rfl) (aH (Ev.of (kO (bG aJ (bG aJ (bG aJ (bG aJ (bG (bK aJ.e aJ.e rfl rfl) eB))))))) (bK e1.e aJ.e (eM (by decide)) rfl).e em rfl).e rfl rfl).e λv7 H2 s2 r7=>?_);cases r7;have lW:=s1.trans s2;obtain⟨n2,Bv,e2⟩:=MB (ρ:=zx xs ns f g rs h [Z9 (.od,.int (dy+m)),Z8,Z8,Z8,Z9 (.od,cV c),Z8,Z8]) c (k:=25) (by decide) (by decide) rfl;obtain⟨vs,he,Al⟩:=dd;refine eP (rD (aF rfl ⟨.inl ⟨rfl,_,SqL.of (lW _ _ he)⟩,lU (aI (dJ hκ hφ (sl s2) (d:=.int (max 0 (dy+m-n2%2))) (bM (aD aJ.e (aD (bK (aC rfl) (bK e2.e aJ.e (eM (by decide)) rfl).e rfl rfl).e aN)) (Sr _ _) rfl).e λvx H3 s3 rx=>aI (aF rfl (bJ ⟨by rw[cb];simp,λp hp=>?_⟩))))⟩));cases rx;generalize max 0 (dy+m-n2%2)=mx at *
 have Gq:=(lW.trans s3).trans (Same.upd (o:=.tup [.int mx,v11]) hp);have MD:=Gq _ _ he;have rp:Rep Z.K (upd H3 p (.tup [.int mx,v11])) NoB (.ref p) (dyD (mx,c)):=eO hp (Reps.cons rfl (Reps.cons (Rep.aW _ (rM c) (Gp.same (s2.trans s3) λ_ z=>z)) rfl));have Gr:Rep Z.K (upd H3 p (.tup [.int mx,v11])) AnyB v11 (cV c):=Gp.same (s2.trans (s3.trans (Same.upd hp))) λ_ z=>z;have kn:=wy (ys:=vs++[.ref p]) MD;generalize upd H3 p (.tup [.int mx,v11])=H4 at *
 refine⟨e,vs,.ref p,rfl,rfl,MD,?_,?_⟩
 .have :=Al.length;rw[ae]at this;rw[cb];omega
 have dA:Dys Z.K (upd H4 e (.lst (vs++[.ref p]))) e (L++[(mx,c)]):=⟨_,bF,by rw[cj];exact Reps.keep kn (λ_ z=>z) _ ((Al.same Gq λ_ z=>z).append (Reps.cons rp rfl))⟩;have zB:=Rep.keep kn (λ_ z=>z) _ (Rep.aW _ (rM c) Gr);have zC:∀b o,b≠e->H b=Z9 o->upd H4 e (.lst (vs++[.ref p])) b=Z9 o:=λb o hb eb=>by rw[aG hb];exact Gq b o eb
 generalize upd H4 e (.lst (vs++[.ref p]))=HA at dA zB zC;have tA:=t.zA he hE zC
 have ME:=d.keep λb o eb z=>zC b o (λy=>by
  rcases z with z|z
  .exact(hB b z).1 y
  .subst y;rw[he]at eb;cases eb;exact z) eb
 have hla:late h.ld (dy+m)=false:=by
  cases e:h.ld with
  |none=>rfl
  |some l=>exact ub (by grind)
 refine eP (lX ?_);refine u1 ?_;show(match Z.fn[0]? with|some sp=>oZ sp [] Z.E (wA Z _)|none=>fN) (jZ v0 vn f g vr x a [Z9 (.int (dy+m)),o8,Z9 (.ref e),Z9 (.int (2+i)),Z9 v11,rO,oT]) HA _;rw[f0];refine aI (aF rfl (aI (aF rfl (aI (aF rfl (aI (aF rfl (aI (aF rfl (aI (aF rfl (aI (aF rfl (bJ ⟨x,A,a,ds,fs,h,rs,ns,vr,vn,v11,c,g,dy+m,B,rfl,fx,⟨ME.rr,ME.rn,Rep.aW _ (rM c) zB⟩,tA,λb z=>(hB b z).2,by omega,hla,λH' A' kX jE h' ps hl hd hn=>⟨Z7,rfl,fU Z (fU Z ?_)⟩⟩))))))))))))));refine q H' A' kX jE h' (dy+m) (L++[(mx,c)]) _ ps.b (dA.keep (λo eo=>ps.fr e o hE eo) λb o eb z=>ps.fr b o (λw=>tA.cT w eb z) eb) (λb o hb hw eb=>ps.fr b o hw (zC b o hb eb)) (λb w=>(ps.ow b w).imp id λz=>?_) (by omega) (by grind) (λl el=>?_) (λr hr z hz=>?_) (by omega)
 .by_cases MF:b=e
  .subst MF;obtain⟨_,e9,_⟩:=dA;rw[e9]at z;cases z
  .cases eb:H b with
   |none=>rfl
   |some o=>rw[zC b o MF eb]at z;cases z
 .rcases hd with z|z
  .have:=hld l (z▸el);omega
  .rw[z]at el;cases el;simp_all
 .rcases hn r hr z hz with w|⟨r0,h0,w⟩
  .rw[w];simp_all
  .have:=hy r0 h0 z w;omega
namespace L4
abbrev it:C:=.eI (.cons (.int 2) (.cons (.bi "min" (.cons (.bi "len" (.cons (.var 0) .nil)) (.cons (.int 62) .nil))) .nil))
end L4
section
variable {e:Addr}
variable {xs:List Int}
theorem Gs (h0:a[0]?=Z9 (Z9 (.od,.list (xs.map .int)))):evW [] Φ L4.it a=.ok (.fr,(bw (min xs.length 62-2)).map λ(i:Nat)=>ZU (2+i)):=by
 refine sX (ds:=[.int 2,.int (min xs.length 62)]) (aD aJ.e (aD (bM (aD (bM (aD (aC h0) aN) (Uw xs) rfl).e (aD aJ.e aN)) rfl rfl).e aN)) ?_;show(if -aT<=(2:Int)/\min (xs.length:Int) 62<=aT/\(2:Int)<=aT/\-aT<=min (xs.length:Int) 62 then Res.ok ((bw (min (xs.length:Int) 62-2).toNat).map λ(i:Nat)=>ZU (2+i))else Res.no)=_;have c:min (xs.length:Int) 62<=62/\0<=min (xs.length:Int) 62:=by omega
 rw[tw (by generalize min (xs.length:Int) 62=z at c;unfold aT;omega),show(min (xs.length:Int) 62-2).toNat=min xs.length 62-2 by omega]
theorem VS {i n:Nat}(s:i<min n 62-2):2+i<n:=by omega
theorem VT {i n:Nat}(s:i<=min n 62-2):i<=60:=by omega
theorem zoy (u:Z.Κ=[])(G:Z.Φ=ΦL)(f0:Z.fn[0]?=Z9 (spDe φ Z.K I CC))(f1:Z.fn[1]?=Z9 (spDg φ Z.K I CC))(h0:Z.me[0]?=Z9 (I,("fate":Str),spFt φ Z.K I CC Z.mg))(fx:Fx2 rs ns)(M:xs.length<=63)(d:Dt Z.K H B xs rs ns v0 vr vn)(hB:∀b,B (Z9 b)->H b≠Z8/\b≠e/\¬Ow x N a [] b)(t:Bo φ Z.K I CC H x N a [] [] ⟨esC rs,[],[],Z8⟩ rs)(dd:Dys Z.K H e L0)(hL:L0.length<=3)(hE:¬Ow x N a [] e)(hdy:v<=2)
  (q:∀j,(∀b o,b≠e->¬Ow x N a [] b->H b=Z9 o->j b=Z9 o)->D0.rt (.bl Z7) j):wS Z (.seq (.bH (.nm 10) L4.it L4.Gn) L4.l2) D0 (jZ v0 vn f g vr x a [Z9 (.int v),o8,Z9 (.ref e),Z8,Z8,Z8,Z8]) H:=by
 refine eP ⟨_,F0 H,_,(iV d t.tl (dZ [Z9 (.int v),o8,Z9 (.ref e),Z8,Z8,Z8,Z8])).so,by rw[u];exact Gs rfl,λJ B' H4 E VU wk=>?_⟩;have C:((bw (min xs.length 62-2)).map λ(i:Nat)=>ZU (2+i)).length=min xs.length 62-2:=by rw[ae,cx]
 have t4:=t.same E;have ne:H e≠none:=by obtain⟨_,p,_⟩:=dd;rw[p];simp
 let F:Hp->Ha->List Addr->Prop:=λj A fs=>∀b o,H4 b=Z9 o->b≠e->¬Ow x N a [] b->j b=Z9 o/\¬Ow x A a fs b
 have O:∀{j A fs},F j A fs->∀b o,H4 b=Z9 o->Fix o->j b=Z9 o:=λ{j A fs} ff b o m z=>(ff b o m (λy=>by obtain⟨_,p,_⟩:=dd;subst y;rw[E _ _ p]at m;cases m;exact z) λw=>t4.cT w m z).1
 have P:∀{j A fs},F j A fs->Dt Z.K j B xs rs ns v0 vr vn:=λ{j A fs} ff=>(d.same E).keep λb o m z=>by
  rcases z with z|z
  .exact(ff b o m (hB b z).2.1 (hB b z).2.2).1
  .exact O ff b o m z
 have fB:∀{j A fs},F j A fs->∀b,B (Z9 b)->b≠e/\¬Ow x A a fs b:=λ{j A fs} ff b z=>by
  obtain⟨p,h2,h3⟩:=hB b z;cases m:H4 b with
  |none=>exact absurd (E.none m) p
  |some o=>exact⟨h2,(ff b o m h2 h3).2⟩
 let W:Nat->Nat->L2.St->Hp->Prop:=λi k Q j=>k=min xs.length 62-2-i/\i<=min xs.length 62-2/\∃A ds fs h dy L R S T U,Q=jZ v0 vn f g vr x a [Z9 (.int dy),o8,Z9 (.ref e),R,S,T,U]/\Bo φ Z.K I CC j x A a ds fs h rs/\Dys Z.K j e L/\F j A fs/\¬Ow x A a fs e/\h.en.length<=i/\L.length<=i+3/\(∀l,h.ld=Z9 l->l<=dy)/\DyB h dy/\dy<=2+i*100000000000000000000
 refine⟨W,⟨_,rfl,c9 _,N,[],[],_,v,L0,Z8,Z8,Z8,Z8,rfl,t4,dd.same E,λb o m _ n=>⟨m,n⟩,hE,c9 _,by omega,nofun,nofun,by omega⟩,?_⟩
 rintro i k Q j ⟨rfl,hi,A,ds,fs,h,dy,L,R,S,T,U,rfl,tb,dL,ff,V,hen,KJ,hld,hy,X⟩
 have kp:Kp B' H4 j:=λb o m z=>by
  rcases z with z|z
  .have hn:H b=none:=(VU _ z).1
   exact(ff b o m (λy=>ne (y▸hn)) λw=>by
    rcases w with w|w|w
    .exact wI t.th (.inl w) hn
    .exact t.tl.there (.inl w) hn
    .cases w).1
  .exact O ff b o m z
 by_cases s:i<min xs.length 62-2
 .refine .inr ⟨wk.go j kp i (by rw[C];exact s),W (i+1) (min xs.length 62-2-(i+1)),λtX H2 w=>⟨_,Nat.sub_lt_sub_left s (iu i),w⟩,λz H6 Gk=>?_⟩;obtain⟨s6,c,Y,ry⟩:=wk.gY j kp i z H6 (by rw[C];exact s) Gk;rw[ao,ee s]at Y;cases Y;refine Gb ry (by show 10<14;decide) λw r9=>?_;cases r9;have D:F H6 A fs:=λb o m p n=>⟨s6 b o (ff b o m p n).1,(ff b o m p n).2⟩;refine zma u G f0 fx (P D) (tb.same s6) (dL.same s6) (fB D) V M (VS s) hen KJ hld hy X λH7 A7 VW VX h7 VY L7 Xo b7 d7 VZ MG Gu V0 Gv V1 Gx=>⟨rfl,s,A7,VW,VX,h7,VY,L7,_,_,_,_,rfl,b7,d7,λb o m p n=>?_,λw=>(MG e w).elim V λz=>?_,Gu,V0,Gv,V1,Gx⟩
  .obtain⟨g1,g2⟩:=D b o m p n;exact⟨VZ b o p g2 g1,λw=>(MG b w).elim g2 λz=>by rw[g1]at z;cases z⟩
  .obtain⟨_,p,_⟩:=dL;rw[s6 _ _ p]at z;cases z
 .have pB:i=min xs.length 62-2:=Nat.le_antisymm hi (my s);refine .inl ⟨by have:=wk.stop j kp;rw[C]at this;rw[pB];exact this,?_⟩;have i6:=VT hi;clear hi s pB;exact zrc u G h0 f1 fx (P ff) tb (by omega) (λr hr z hz=>by have:=hy r hr z hz;omega) dL.rep (by omega) M λH8 s8=>q H8 λb o hb n m=>s8 b o (ff b o (E b o m) hb n).1
end
namespace L4
abbrev hs:W:=.mk 1 (.cons (.mk 0 (.cons (.raw 4) .nil)) .nil)
abbrev d9 (c:C):W:=.aX (.tup (.cons c (.cons (.var 8) .nil)))
def la:WS:=.seq (.asg 1 (.aX (.call 1 "_law_names" (.cons (ca 0) (.cons (.int 9) .nil)))))
 (.seq (.asg 2 (.aX (.cmp .Eq (.bin .Mod (ca 0) (.int 2)) (.int 1))))
 (.seq (.asg 3 (.aX (.call 2 "_law_great" (.cons (ca 0) (.cons (.var 2) .nil)))))
 (.seq (.asg 4 (.aX (.call 3 "_law_courts" (.cons (.tup (.cons (ca 1) (.cons (.var 2) .nil))) (.cons (.var 1) .nil)))))
 (.seq (.asg 5 hs) (.seq (.asg 6 (.lst .nil))
 (.seq (.asg 7 (.aX (.bin .Mod (.call 6 "_law_mix" (.cons (ca 0) (.cons (.int 2) .nil))) (.int 3))))
 (.seq (.asg 8 (.aX (.tup (.cons (ca 0) (.cons (.var 2) .nil)))))
 (.seq (.asg 9 (.lst (.cons (d9 (.int 0)) (.cons (d9 (.var 7)) (.cons (d9 (.bin .Pow (.int 10) (.int 30))) .nil)))))
 (.seq (.bH (.nm 10) it Gn) l2)))))))))
end L4
section
variable {φ:dN}{Z:Wc}{HC CC:Addr}{H:Hp}{D0:Ends}{v0:V}{xs:List Int}{B:Ad->Prop}
theorem zoj (i:Z.Κ=[])(j:Z.Φ=ΦL)(f0:Z.fn[0]?=Z9 (spDe φ Z.K HC CC))(f1:Z.fn[1]?=Z9 (spDg φ Z.K HC CC))(h0:Z.me[0]?=Z9 (HC,("fate":Str),spFt φ Z.K HC CC Z.mg))(c0:Z.cl[0]?=Z9 (CC,zan Z.K CC Z.mg))(c1:Z.cl[1]?=Z9 (HC,spHi Z.K HC CC))(F:xs.length<=63)(r0:Rep Z.K H B v0 (.list (xs.map .int)))
  (q:∀H',Same H H'->D0.rt (.bl Z7) H'):wS Z L4.la D0 (Z9 v0::ay 13 Z8) H:=by
 obtain⟨l,P⟩:=FU xs F (k:=0) dc;obtain⟨k1,e1⟩:=FU xs F (k:=1) dc;have ca:∀{ρ:Rho} {k v:Int},ρ[0]?=Z9 (Z9 (.od,.list (xs.map .int)))->zh [.list (xs.map .int),.int k]=.ok (.fr,.int v)->Vv [] ΦL (L4.ca k) ρ (.int v):=λh e=>bW (aD (aC h) (aD aJ.e aN)) rfl e rfl;obtain⟨ns,⟨MC,Bv⟩,en⟩:=UG l (n:=9) dc;generalize hf:decide (l%2=1)=f;obtain⟨g,_,eg⟩:=UA l f;obtain⟨rs,⟨gd,nm⟩,ec⟩:=UT (ns:=ns) (n:=5) dc dc (by omega) (by omega) (k1,f) rfl;obtain⟨R,_,V2⟩:=pI l (k:=2) dc dc;have fx:Fx2 rs ns:=⟨Bv,MC,by have:=congrArg jh nm;rw[ae,eh]at this;omega,nm,gd⟩;refine dX (dJ i j (.da r0 (dZ _)) (eX (aD (ca rfl P).e (aD aJ.e aN)) rfl en) λvn H1 s1 rn=>?_);have y:=λ{v:V} {d:D} {Ha:Hp} {Bx:Ad->Prop} (r:Rep Z.K Ha Bx v d) {S:Hp} (s:Same Ha S)=>r.same s λ_ _=>trivial;refine dX (dJ i j (.da (y r0 s1) (.da rn (dZ _))) (bZ (k:=decide (l%2=1)) (bK (ca rfl P).e aJ.e (eM dc) rfl).e aJ.e rfl).e λv2 H2 s2 r2=>?_);cases r2;rw[hf];have T:=s1.trans s2;refine dX (dJ i j (.da (y r0 T) (.da (y rn s2) (.da (d:=.bool f) (B:=AnyB) rfl (dZ _)))) (bW (aD (ca rfl P).e (aD (aC rfl) aN)) rfl eg rfl).e λv3 H3 s3 r3=>?_);cases r3;have U:=T.trans s3;refine dX (dJ i j (.da (y r0 U) (.da (y rn (s2.trans s3)) (.da (d:=.bool f) (B:=AnyB) rfl (.iS (dZ _))))) (eX (aD (SM (aD (ca rfl e1).e (aD (aC rfl) aN))) (aD (aC rfl) aN)) rfl ec) λvr N s4 rr=>?_);have m:=U.trans s4;have W:z0n [] (rs.map cwD)=Z9 (esC rs):=by have:=K6 fx.wL fx.gd rs.length (ak _);rw[gw]at this;exact this
 have lA:rs.length<1000:=by rw[fx.l5];decide
 have Gy:∀{σ:L2.St} {Ha:Hp} {Q:VK},σ[4]?=Z9 (Z9 vr)->Same N Ha->(∀x A S,Same Ha S->(∀b,A.own x b\/b=A.c->Ha b=Z8)->Hou Z.K HC CC S x A ⟨esC rs,[],[],Z8⟩->Q (.ref x) S)->wE Z L4.hs σ Ha Q:=λ{σ Ha Q} e4 sa k=>Fj c1 (aI (Fj c0 (aI (aF e4 (bJ (kC (y rr sa) W (by rw[ae];exact lA) λxd Xp dd Xq H9 O Xr Xs V3=>bJ (kH V3 (by rw[Uh];exact W) (by rw[Ui];exact lA) λx A L6 Bh hx ho hc t=>k x A L6 (O.trans Bh) (λb u=>O.none (u.elim (ho b) λz=>z▸hc)) t)))))));refine dX (Gy rfl (Same.refl N) λx A H5 s5 o5 t5=>?_);refine dX (wq (bJ ⟨c9 _,λp hp=>?_⟩));have s6:Same H5 (upd H5 p (.lst [])):=Same.upd hp;have G:upd H5 p (.lst []) p=Z9 (.lst []):=bF;generalize upd H5 p (.lst [])=H6 at s6 G;have I:=s5.trans s6;have X:=m.trans I;have sl:∀{Ha:Hp} {tl:L2.St} {J:Rho},Same H Ha->Sl Z.K Ha tl J->Sl Z.K Ha (jZ v0 vn f g vr x p tl) (Z9 (.od,.list (xs.map .int))::Z8::Z9 (.od,.bool f)::Z8::Z8::Z8::Z8::J):=λ{Ha tl J} sa ht=>.da (y r0 sa) (.no (.da (B:=AnyB) rfl (.no (.no (.no (.no ht))))));refine dX (dJ i j (sl X (dZ (ay 7 Z8))) (bK (bW (aD (ca rfl P).e (aD aJ.e aN)) rfl V2 rfl).e aJ.e (eM dc) rfl).e λv7 H7 s7 r7=>?_);cases r7;have Y:=X.trans s7;refine dX (dJ i j (sl Y (dZ (Z9 (.int (R%3))::ay 6 Z8))) (jz (bG (ca rfl P) (bG (v_var rfl rfl) eB))).e λv8 H8 s8 r8=>?_);have O:∀{Ha:Hp},Same H8 Ha->Sl Z.K Ha (jZ v0 vn f g vr x p (Z9 (.int (R%3))::Z9 v8::ay 5 Z8)) (Z9 (.od,.list (xs.map .int))::Z8::Z9 (.od,.bool f)::Z8::Z8::Z8::Z8::Z9 (.od,.int (R%3))::Z9 (.od,cV (l,f))::ay 5 Z8):=λsa=>sl ((Y.trans s8).trans sa) (.iS (.da (r8.same sa λ_ z=>z) (dZ _)));refine dX (wq (aI (dJ i j (O (Same.refl H8)) (jz (bG aJ (bG (v_var rfl (rM (l,f))) eB))).e λw1 K1 z1 q1=>aI (dJ i j (O z1) (jz (bG (v_var rfl rfl) (bG (v_var rfl (rM (l,f))) eB))).e λw2 K2 z2 q2=>aI (dJ i j (O (z1.trans z2)) (jz (bG (bK aJ.e aJ.e rfl rfl) (bG (v_var rfl (rM (l,f))) eB))).e λw3 K3 z3 q3=>bJ ⟨by rw[cb];simp,λe he=>?_⟩)))));have MH:=z1.trans (z2.trans z3);have rL:Reps Z.K K3 NoB [w1,w2,w3] [dyD (0,l,f),dyD (R%3,l,f),dyD (10 ^ 30,l,f)]:=Reps.cons (Rep.aW _ (zy _) (q1.same (z2.trans z3) λ_ z=>z)) (Reps.cons (Rep.aW _ (zy _) (q2.same z3 λ_ z=>z)) (Reps.cons (Rep.aW _ (zy _) q3) rfl));have dL:Dys Z.K (upd K3 e (.lst [w1,w2,w3])) e [(0,l,f),(R%3,l,f),(10 ^ 30,l,f)]:=⟨_,bF,rL.same (Same.upd he) λ_ z=>z⟩;have MI:Same K3 (upd K3 e (.lst [w1,w2,w3])):=Same.upd he;generalize upd K3 e (.lst [w1,w2,w3])=H9 at dL MI;have L:=s7.trans (s8.trans (MH.trans MI));have M:=I.trans L;have C:=(s7.trans (s8.trans MH)).none he
 have old:∀{b:Addr},N b≠Z8->¬Ow x A p [] b:=λ{b} h w=>by
  rcases w with w|w|w
  .exact h (o5 b (.inl w))
  .exact h (s5.none (w▸hp))
  .cases w
 have E:∀{b:Addr},N b≠Z8->b≠e:=λ{b} h w=>h (I.none (w▸C));have up:∀{v:V} {d:D} {Bx:Ad->Prop},Rep Z.K N Bx v d->Rep Z.K H9 (λa=>∀b,a=Z9 b->N b≠Z8) v d:=λ{v d Bx} r=>(Rep.there _ r).same M λa z b u=>by subst u;exact z.2
 refine zoy i j f0 f1 h0 fx F ⟨up (y r0 m),up rr,up (y rn (s2.trans (s3.trans s4)))⟩ (λb z=>⟨λw=>z b rfl (M.none w),E (z b rfl),old (z b rfl)⟩) ⟨t5.same (s6.trans L),⟨L _ _ G,rfl,nofun,⟨rfl,λk b e=>by cases e⟩,List.nodup_nil,gv⟩,U3,rfl,λb u w=>?_,λb u w=>?_⟩ dL (ak _) (λw=>?_) (by omega) λH' k'=>q H' λb o eb=>k' b o (E (by rw[m b o eb];simp)) (old (by rw[m b o eb];simp)) ((m.trans M) b o eb)
 .rcases w with w|w|w
  .exact wI t5 (.inl u) (w▸hp)
  .cases w
  .cases w
 .rcases u with u|u
  .exact wI t5 (.inr w) (u▸hp)
  .cases u
 .rcases w with w|w|w
  .exact wI (t5.same s6) (.inl w) C
  .rw[w,G]at C;cases C
  .cases w
end
def top (i:Nat):Stmt:=PySem.Challenge.pw_likebook_k44_days_gone_by.main.body.getD i (.Pass ⟨0,0,0,0⟩)
def BD (i:Nat):Stmt->Stmt
 |.ClassDef _ _ _ b ..=>b.getD i (.Pass ⟨0,0,0,0⟩)
 |s=>s
def Sb:Nat->S
 |0=>.nil
 |n+1=>.seq .bad (Sb n)
abbrev FREE:List Str:=["isinstance","str","len","range","list","min","max","ValueError","int","bool","enumerate","dict","sorted","tuple"]
abbrev hr (nm:Str)(st:Stmt)(N:List Str)(k n:Nat):DRow:=⟨nm,st,N,N.take k,FREE,[],Sb n,aQ [] [] N.length (Sb n),.n,[]⟩
abbrev MJ:List Str:=["_law_rows","_law_entries","_law_date","_law_court","_law_word","_law_new","_law_number","_law_entry","_law_beneath"]
abbrev MK:List Str:=["_law_house","_law_rows","_law_entries","_law_names_here","_law_cell_here","_law_great_here","_law_date","_law_stands","_law_number","_law_line_here","_law_court","_law_word","_law_new","_law_found"]
abbrev ML:List Str:=["_law_house","_law_rows","_law_entries","_law_names_here","_law_date","_law_cell_here","_law_great_here","_law_court","_law_case_here","_law_word","_law_due","_law_found","_law_now"]
abbrev V4:List Str:=["_law_script","_law_names_here","_law_free","_law_great_here","_law_rows","_law_house","_law_entries","_law_date","_law_head","_law_days","_law_k","_law_cell_here","_law_number","_law_found"]
abbrev Rz:List DRow:=[
 ⟨"over",top 16,["one","other","held"],["one","other"],["dict"],[],zc,lZ,.n,[]⟩,
 ⟨"within",top 15,["one","other"],["one","other"],[],[0],zd,oO,.n,[]⟩,
 ⟨"check_side",top 11,["side"],["side"],["isinstance","str"],[],y9,rE,.n,[]⟩,
 ⟨"side_of",top 13,["case","side"],["case","side"],[],[2],zb,hX,.n,[]⟩,
 ⟨"ruling",top 18,["case","side","reason"],["case","side","reason"],[],[1,3],ze,rG,.n,[]⟩,
 ⟨"against",top 22,["one","other"],["one","other"],[],[1,3],zf,hY,.n,[]⟩,
 ⟨"barred",top 25,["book","one","k","other"],["book","one"],["enumerate"],[5],K9,Bm,.n,[]⟩,
 ⟨"stood",top 29,["fate","day"],["fate","day"],["len"],[],K',zg,.n,[]⟩,
 ⟨"other_side",top 12,["side"],["side"],[],[2],za,lY,.n,[]⟩,
 ⟨"opposed_of",top 19,["one"],["one"],[],[3,8],vh,l',.n,[]⟩,
 ⟨"apart",top 21,["one","case","side","less","more"],["one","case"],[],[0,9,3,8],vi,rH,.n,[]⟩,
 ⟨"binds",top 20,["one","case"],["one","case"],[],[10],vj,gD,.n,[]⟩,
 ⟨"binding",top 24,["book","case","k","one"],["book","case"],["enumerate"],[11],K8,zb1,.n,[]⟩,
 ⟨"_law_cell_at",top 32,["_law_script","_law_k"],["_law_script","_law_k"],["len"],[],La,zh,.n,[]⟩,
 ⟨"_law_whole",top 33,["_law_found"],["_law_found"],["isinstance","bool","int"],[],Lb,Fv,.n,[]⟩,
 ⟨"_law_mix",top 34,["_law_cell_here","_law_k","_law_figure"],["_law_cell_here","_law_k"],[],[],Lc,kT,.n,[]⟩,
 ⟨"_law_cell",top 35,["_law_script","_law_k","_law_free"],["_law_script","_law_k","_law_free"],[],[15],Ld,Fw,.n,[]⟩,
 ⟨"_law_pick",top 36,["_law_cell_here","_law_at","_law_number","_law_free","_law_turn"],["_law_cell_here","_law_at"],["range"],[15],Fx,iA,.n,[]⟩,
 ⟨"_law_names",top 37,["_law_cell_here","_law_many","_law_letters","_law_base","_law_at","_law_signs"],["_law_cell_here","_law_many"],["range","len"],[15],Fy,Fz,.n,[]⟩,
 ⟨"_law_degree",top 38,["_law_figure","_law_great_here"],["_law_figure","_law_great_here"],[],[],Le,tN,.n,[]⟩,
 ⟨"_law_pack",top 39,["_law_names_here","_law_cell_here","_law_at","_law_great_here","_law_pairs"],["_law_names_here","_law_cell_here","_law_at","_law_great_here"],["tuple","sorted","range","len"],[19,17],Lf,wB,.n,[]⟩,
 ⟨"_law_within",top 40,["_law_one","_law_other_here","_law_some","_law_name","_law_degree_here"],["_law_one","_law_other_here"],["dict"],[],Lg,vo,.n,[]⟩,
 ⟨"_law_meet",top 41,["_law_one","_law_other_here","_law_some","_law_pairs"],["_law_one","_law_other_here"],["tuple","min","dict"],[],Lh,zi,.n,[]⟩,
 ⟨"_law_great",top 42,["_law_cell_here","_law_free"],["_law_cell_here","_law_free"],[],[15],Li,FC,.n,[]⟩,
 ⟨"_law_case",top 43,["_law_names_here","_law_cell_here","_law_at","_law_great_here"],["_law_names_here","_law_cell_here","_law_at","_law_great_here"],[],[20],Lj,wC,.n,[]⟩,
 ⟨"_law_side",top 44,["_law_case_here","_law_side_here"],["_law_case_here","_law_side_here"],["int"],[],Lk,pG,.n,[]⟩,
 ⟨"_law_other",top 45,["_law_side_here"],["_law_side_here"],["int"],[],Ll,FD,.n,[]⟩,
 ⟨"_law_clash",top 46,["_law_one","_law_other_here"],["_law_one","_law_other_here"],[],[21,25],Lm,FE,.n,[]⟩,
 ⟨"_law_binds",top 47,["_law_one","_law_case_here","_law_away"],["_law_one","_law_case_here"],[],[21,25,26],FF,wD,.n,[]⟩,
 ⟨"_law_ruling",top 48,["_law_names_here","_law_cell_here","_law_great_here","_law_case_here","_law_side_here","_law_reason"],["_law_names_here","_law_cell_here","_law_great_here"],[],[17,22,20,25,24],FG,FH,.n,[]⟩,
 ⟨"_law_courts",top 49,["_law_cell_here","_law_names_here","_law_rows","_law_k","_law_heads"],["_law_cell_here","_law_names_here"],["range","len"],[17],Ln,Bn,.n,[]⟩,
 ⟨"_law_line",top 50,["_law_rows","_law_court","_law_heads","_law_found"],["_law_rows","_law_court"],["dict"],[],Lo,pH,.n,[]⟩,
 ⟨"_law_standing",top 51,["_law_rows","_law_entries","_law_court","_law_word","_law_line_here","_law_found","_law_number","_law_entry"],["_law_rows","_law_entries","_law_court","_law_word"],["range","len"],[31],Lp,FI,.n,[]⟩,
 ⟨"_law_stood",top 54,["_law_rows","_law_entries","_law_court","_law_word","_law_date","_law_line_here","_law_found","_law_number","_law_entry","_law_ended"],["_law_rows","_law_entries","_law_court","_law_word","_law_date"],["range","len"],[31],Lq,Bp,.n,[]⟩,
 ⟨"_law_bound",top 55,["_law_entries","_law_numbers","_law_case_here","_law_number"],["_law_entries","_law_numbers","_law_case_here"],[],[28],Ls,FJ,.n,[]⟩,
 ⟨"_law_same",top 56,["_law_found","_law_due"],["_law_found","_law_due"],["isinstance","str","len","tuple"],[14],Lu,z95,.n,[]⟩,
 hr "_law_told_enter" (top 53) ["_law_house","_law_date","_law_court","_law_word","_law_new","_law_found","e"] 5 3,
 ⟨"_law_enter",top 52,MJ,MJ.take 6,FREE,[27,31,32],Sb 4,aQ [] Φe 9 (Sb 4),.n,[]⟩,
 ⟨"_law_deed",top 57,MK,MK.take 7,FREE,[29,17,31],Sb 7,aQ [] Φd 14 (Sb 7),.n,[]⟩,
 ⟨"_law_day_good",top 58,ML,ML.take 7,FREE,[17,24,33,34],Sb 4,aQ [] Φy 13 (Sb 4),.n,[]⟩]
abbrev Lr:DRow:=⟨"law",top 59,V4,["_law_script"],FREE,[13,18,23,30,16,17,15],Sb 13,aQ [] ΦL 14 (Sb 13),.n,[]⟩
abbrev Xt:List XR:=[⟨"NoCourt",[],"BookError"⟩,⟨"NoCourt",[],"NoCourt"⟩,⟨"Late",[],"BookError"⟩,⟨"NoRuling",[],"BookError"⟩,⟨"NoSide",[],"BookError"⟩,⟨"NoReason",[],"BookError"⟩,⟨"NotYours",[],"BookError"⟩]
abbrev hm (nm:Str)(st:Stmt)(N:List Str)(k n:Nat):DRow:=⟨nm,st,N,N.take k,FREE,[],Sb n,λ_=>.no,.n,[]⟩
abbrev cm (i:Nat):Stmt:=BD i (top 27)
abbrev hh (i:Nat):Stmt:=BD i (top 30)
abbrev Ms:List DRow:=[
 hm "stands" (cm 1) ["self","court"] 2 1,
 hm "found" (cm 2) ["self","court","above"] 3 3,
 hm "line" (cm 4) ["self","court","found"] 2 4,
 hm "__init__" (cm 0) ["self","pairs","court","above"] 2 2,
 hm "pairs_told" (cm 3) ["self"] 1 1,
 hm "__init__" (hh 0) ["self","courts"] 2 4,
 hm "fate" (hh 7) ["self","number"] 2 2,
 hm "enter" (hh 2) ["self","day","court","word","case","side","reason","made","number","k"] 7 9,
 hm "standing" (hh 4) ["self","court","word","day","line"] 4 2,
 hm "overrule" (hh 3) ["self","day","court","number"] 4 6,
 hm "about" (hh 9) ["self","word","day"] 3 1,
 hm "rulings_at" (hh 10) ["self","numbers"] 2 1,
 hm "felled" (hh 11) ["self","court","word","made"] 4 1,
 hm "is_felled" (hh 12) ["self","number","court","made","entry"] 4 2,
 hm "check_court" (hh 13) ["self","court"] 2 1,
 hm "check_deed" (hh 14) ["self","day","court"] 3 2,
 hm "check_allowed" (hh 15) ["self","court","word","made","numbers","found"] 4 3,
 hm "check_number" (hh 16) ["self","number","whole"] 2 2,
 hm "__init__" (BD 0 (top 7)) ["self","by"] 2 1,
 hm "bound" (hh 5) ["self","court","word","case","day","numbers","found"] 5 3]
abbrev CrC:lT:=⟨"Courts",["aboves"],[("stands",cm 1),("found",cm 2),("line",cm 4),("__init__",cm 0),("pairs_told",cm 3)]⟩
abbrev CrH:lT:=⟨"House",["courts","entries","fates","last_day"],[("__init__",hh 0),("enter",hh 2),("fate",hh 7),("overrule",hh 3),("about",hh 9),("rulings_at",hh 10),("felled",hh 11),("is_felled",hh 12),("check_court",hh 13),("check_deed",hh 14),("check_allowed",hh 15),("check_number",hh 16)]⟩
abbrev MdH:List (Str×Stmt):=[("standing",hh 4),("bound",hh 5)]
abbrev xN:oI:=⟨"NotAllowed","by","NotAllowed",[],BD 0 (top 7)⟩
theorem mE:wb (Rz++[Lr]) Xt FREE 0 (Rz++[Lr])=true:=by decide+kernel
theorem V5:qL (Rz++[Lr]) (Rz++[Lr]):=⟨rfl,rfl,rfl,rfl,rfl,rfl,rfl,rfl,rfl,rfl,rfl,rfl,rfl,rfl,rfl,rfl,rfl,rfl,rfl,rfl,rfl,rfl,rfl,rfl,rfl,rfl,rfl,rfl,rfl,rfl,rfl,rfl,rfl,rfl,rfl,rfl,rfl,rfl,rfl,rfl,rfl,trivial⟩
theorem gS:wb Ms Xt FREE 0 Ms=true:=by decide+kernel
theorem V6 (n:Nat)(p:Bool×P×P×P):bE (n+4) (mr p)=true:=by
 refine pA.mpr λw hw=>?_;simp only[bq,gv,or_false]at hw;rcases hw with rfl|rfl|rfl
 .show fZ (n+2) [pk p.2.1,pk p.2.2.1]=Z7;refine pA.mpr λw hw=>?_;simp only[bq,gv,or_false]at hw;rcases hw with rfl|rfl<;>exact JD n _
 .rfl
 .exact JD (n+1) _
def cI:dN where
 G r:=∃p,GR p/\r=mr p
 sd f d:=match d with
  |.none=>f.length==1
  |.int n=>wH f n
  |_=>Z6
 ag r s:=match hY [r,s]with
  |.ok (_,.bool b)=>b
  |_=>Z6
 s0 _:=rfl
 dy d:=match d with
  |.none=>Z7
  |.int _=>Z7
  |_=>Z6
 d0:=rfl
 sh:=λr ⟨p,_,e⟩=>e▸V6 35 p
theorem Gz (a:GR p)(c:GR q):cI.ag (mr p) (mr q)=eY p q:=by show(match hY [mr p,mr q]with|.ok (_,.bool b)=>b|_=>Z6)=_;rw[vC a c]
theorem MM {K:Z5}:StS cI K (spD K 2 zg):=⟨_,rfl,λf d hd hf=>by cases d<;>first|(cases hd;done)|exact⟨_,UN hf.2.1⟩|exact⟨_,Vh hf _⟩⟩
theorem V7 {K:Z5}:AgS cI K (spD K 2 hY):=⟨_,rfl,λr s ⟨p,a,c⟩ ⟨q,b,d⟩=>by subst c d;exact⟨_,by rw[Gz a b];exact vC a b⟩⟩
theorem MN:∀{rs:List D},(∀r∈rs,cI.G r)->∃ps:List (Bool×P×P×P),(∀p∈ps,GR p)/\rs=ps.map mr
 | [],_=>⟨[],nofun,rfl⟩
 |r::rs,h=>by obtain⟨p,a,rfl⟩:=h r (.head _);obtain⟨ps,b,rfl⟩:=MN λr hr=>h r (.tail _ hr);exact⟨p::ps,λx c=>(bq.mp c).elim (λe=>e▸a) (b x),rfl⟩
theorem V8 {ps:List (Bool×P×P×P)}(hp:∀p∈ps,GR p)(hq:GR q):((ps.map mr).findIdx? λr=>cI.ag r (mr q))=ps.findIdx? λp=>eY p q:=by
 induction ps with
 |nil=>rfl
 |cons p ps ih=>rw[br,fy,fy,Gz (hp p (.head _)) hq,ih λx hx=>hp x (.tail _ hx)]
theorem MO {K:Z5}:BrS cI K (spD K 2 Bm):=⟨_,rfl,λrs s a hr ⟨q,b,e⟩=>by subst e;obtain⟨ps,c,rfl⟩:=MN hr;rw[V8 c b];refine⟨.fr,(UL c b (by rw[ae]at a;exact a)).trans ?_⟩;cases ps.findIdx? λp=>eY p q<;>rfl⟩
theorem V9 {K:Z5}:RuS cI K (spD K 3 rG):=⟨_,rfl,λa b c ⟨p,d,e⟩=>by cases e;exact⟨_,UM d⟩⟩
theorem rR:PhL cI:=⟨λp a=>⟨p,a,rfl⟩,λr h=>h,λp q a b=>Gz a b⟩
theorem GA:PhD cI:=⟨λ_=>rfl,λ_ _ _=>rfl⟩
inductive dC {α β:Type}(R:α->β->Prop):List α->List β->Prop where
 |nil:dC R [] []
 |cons {a:α} {b:β} {l:List α} {m:List β} (h:R a b) (t:dC R l m):dC R (a::l) (b::m)
theorem dC.at {α β:Type}{R:α->β->Prop}{l:List α}{m:List β}(h:dC R l m):∀{j:Nat} {a:α},l[j]?=Z9 a->∃b,m[j]?=Z9 b/\R a b:=by
 induction h with
 |nil=>intro j a e;cases e
 |cons h t ih=>
  intro j a e;cases j with
  |zero=>cases e;exact⟨_,rfl,h⟩
  |succ j=>exact ih e
section
variable (P:cu)(w:World)(K:Z5)(mg:Str->Option Value)(base:Heap)
abbrev FX (k:Nat)(f:Addr)(fd:d5)(ps:List Str)(sp:Sp):Prop:=FnOk P w K mg base (CXE P w base) k f fd ps sp
def Fc (r:Nat)(x:Str×Nat)(sp:Sp):Prop:=∃f fd ps k,k<=r/\FX P w K mg base k f fd ps sp/\mg x.1=Z9 (.ref f)/\Z2 K (.ref f)=Z7/\Binds K fd ps []
def Mt (r:Nat)(m:Str×Nat)(y:Addr×Str×Sp):Prop:=m.1=y.2.1/\∃f fd ps k,k<=r/\FX P w K mg base k f fd ps y.2.2/\Cls K y.1/\Meth K y.1 m.1 f/\Binds K fd ps []
def Md (r:Nat)(m:Str×Nat)(y:Addr×Str×Sp):Prop:=m.1=y.2.1/\∃f fd ps k,k<=r/\FX P w K mg base k f fd ps y.2.2/\Cls K y.1/\Meth K y.1 m.1 f/\Binds K fd ps [.none]
def Mq (r:Nat)(m:Str×Str)(y:Addr×Str×Sp):Prop:=m.1=y.2.1/\∃f fd ps k,k<=r/\FX P w K mg base k f fd ps y.2.2/\Cls K y.1/\Meth K y.1 m.1 f/\KBinds K fd ps [m.2] kwG kwG
def Mc (r:Nat)(x:Str×Nat)(y:Addr×Sp):Prop:=∃f fd ps k,k+1<=r/\FX P w K mg base k f fd ps y.2/\L2.Mk K y.1 f/\mg x.1=Z9 (.ref y.1)/\Binds K fd ps []
variable {P w K mg base}
theorem Fc.up (h:Fc P w K mg base r x a)(l:r<=b):Fc P w K mg base b x a:=by obtain⟨f,fd,ps,k,c,d⟩:=h;exact⟨f,fd,ps,k,bj c l,d⟩
theorem Mt.up (h:Mt P w K mg base r x y)(l:r<=a):Mt P w K mg base a x y:=by obtain⟨e,f,fd,ps,k,b,c⟩:=h;exact⟨e,f,fd,ps,k,bj b l,c⟩
theorem Md.up (h:Md P w K mg base r x y)(l:r<=r'):Md P w K mg base r' x y:=by obtain⟨e,f,fd,ps,k,h1,h2⟩:=h;exact⟨e,f,fd,ps,k,bj h1 l,h2⟩
theorem Mq.up {r a:Nat}{x:Str×Str}{y:Addr×Str×Sp}(h:Mq P w K mg base r x y)(l:r<=a):Mq P w K mg base a x y:=by obtain⟨e,f,fd,ps,k,b,c⟩:=h;exact⟨e,f,fd,ps,k,bj b l,c⟩
theorem Mc.up (h:Mc P w K mg base r x y)(l:r<=a):Mc P w K mg base a x y:=by obtain⟨f,fd,ps,k,b,c⟩:=h;exact⟨f,fd,ps,k,bj b l,c⟩
theorem MP (a:Z.K=K)(t:Z.mg=mg)(f:dC (Fc P w K mg base r) p.fn Z.fn)(m:dC (Mt P w K mg base r) p.me Z.me)(c:dC (Mc P w K mg base r) p.cl Z.cl)(u:p.gi=[])(hh:p.hf=[])(d:dC (Md P w K mg base r) p.md Z.md)(q:dC (Mq P w K mg base r) p.mq Z.mq):Zok p Z (CXE P w base) P w K mg base r where
 kk:=a
 mm:=t
 fn:=λj x n e=>by obtain⟨b,a,f,fd,ps,k,g,h,i,l,o⟩:=f.at e;exact⟨b,f,fd,ps,k,a,g,h,i,l,o⟩
 me:=λj x n e=>by obtain⟨⟨C,s,b⟩,a,rfl,f,fd,ps,k,g,h,i,l,o⟩:=m.at e;exact⟨C,b,f,fd,ps,k,a,g,h,i,l,o⟩
 cl:=λj x n e=>by obtain⟨⟨C,b⟩,a,f,fd,ps,k,g,h,i,l,o⟩:=c.at e;exact⟨C,b,f,fd,ps,k,a,g,h,i,l,o⟩
 gi:=λj x e=>by rw[u]at e;cases e
 hf:=λj x n e=>by rw[hh]at e;cases e
 md:=λj x n e=>by obtain⟨⟨C,s,b⟩,a,rfl,f,fd,ps,k,g,h,i,l,o⟩:=d.at e;exact⟨C,b,f,fd,ps,k,a,g,h,i,l,o⟩
 mq:=λj x n e=>by obtain⟨⟨C,s,b⟩,a,rfl,f,fd,ps,k,g,h,i,l,o⟩:=q.at e;exact⟨C,b,f,fd,ps,k,a,g,h,i,l,o⟩
end
theorem GB {P:List Value->Prop}(h:∀a b c d e f g,P [a,b,c,d,e,f,g])(i:List Value)(z:i.length=7):P i:=by obtain⟨a,l,rfl,y⟩:=jT z;exact Jq (P:=λl=>P (a::l)) (h a) l y
abbrev HN:List (Str×Str):=(Xt.map λr=>(r.c,r.B))++[(("NotAllowed":Str),("NotAllowed":Str))]
abbrev gM (st:Stmt)(N:List Str)(fns:List (Str×Nat)):Gm:={N:=N,sc:=z0a st,free:=FREE,fns:=fns,cst:=[],sub:=(Xt.map XR.subs).flatten,rs:=Xt.map (·.c),hV:=HN}
abbrev MQ:List (Str×Str):=[("NotAllowed","by")]
abbrev gH (r:DRow)(fn me cl:List (Str×Nat))(md:List (Str×Nat):=[])(mq:List (Str×Str):=[])(fns:List (Str×Nat):=[])(fld:List (Str×Str):=[]):Gw:={g:=gM r.st r.N fns,fn:=fn,me:=me,cl:=cl,md:=md,mq:=mq,fld:=fld}
abbrev zH (K:Z5)(mg:Str->Option Value)(fn:List Sp)(me:List (Addr×Str×Sp))(cl:List (Addr×Sp))(md:List (Addr×Str×Sp):=[])(mq:List (Addr×Str×Sp):=[])(Φ:List Fn:=[]):Wc:={K:=K,mg:=mg,Κ:=[],Φ:=Φ,E:=λ_ _ _=>False,fn:=fn,me:=me,cl:=cl,md:=md,mq:=mq}
abbrev mq (i:Nat):DRow:=Ms.getD i Lr
def V' (f:Str):WS:=.seq (.AY (.raw 0) f (.raw 1)) .nil
theorem mI {b:Type}{l:List b}{i:Nat}{a:b}(e:l[i]?=Z9 a):a∈l:=aq e
theorem eZ {i:Nat}(h:wb a Xt FREE 0 a=Z7)(e:a[i]?=Z9 r):FnScope r.N r.ps (z0a r.st):=(yr (DZ h e)).1
section
variable {P:cu}{w:World}{K:Z5}{mg:Str->Option Value}{base:Heap}{CC HC:Addr}
structure Tx (K:Z5)(mg:Str->Option Value)(CC HC:Addr):Prop where
 T:∀n∈FREE,mg n=Z8
 G:∀(x:Str) (v:Value),ZY K bt x=Z9 (Z9 v)->mg x=Z9 v
 xk:∀Γ:Gm,Γ.sub=(Xt.map XR.subs).flatten->Γ.rs=Xt.map (·.c)->(Γ.hV=Xt.map λr=>(r.c,r.B))->sT Γ K mg
 XN:∃A D f fd,XAt K xN A D f fd
 CA:ClsAt K CrC CC
 HA:ClsAt K CrH HC
 HD:∀m∈MdH,∃T f fd,FunD K m.1 ("House"++"."++m.1) m.2 T f fd/\Meth K HC m.1 f
theorem GC (t:Tx K mg CC HC){st:Stmt}:sT (gM st N fns) K mg:=by
 have b:=t.xk {gM st N fns with hV:=Xt.map λr=>(r.c,r.B)} rfl rfl rfl;refine⟨b.sub,b.rs,λc B h=>?_⟩;rcases bu.mp (cr.mp h)with h|h
 .exact b.hV c B (cr.mpr h)
 .cases az.mp h;obtain⟨A,D,f,fd,a⟩:=t.XN;exact⟨A,D,t.G _ _ a.ns,t.G _ _ a.nb,a.xf.ex,a.ed,a.sd⟩
def Fd (P:cu)(w:World)(K:Z5)(mg:Str->Option Value)(base:Heap)(k:Nat)(x:Str×Nat)(m:Fn):Prop:=∃ps k',k'<=k/\Cal P w K mg base k' x.1 ps (spD K x.2 m)/\nW P w K mg base k' x.1 ps x.2 m
theorem Wa (h:lP P w K mg base i r)(a:r.kd=.n)(b:i+1<=k):Fd P w K mg base k (r.nm,r.ps.length) r.F:=by unfold lP at h;rw[a]at h;exact⟨r.ps,i+1,b,h.1,h.2⟩
theorem zD (t:Tx K mg CC HC){st:Stmt}(h:dC (Fd P w K mg base k) fns Φ):Dok (gM st N fns) [] Φ P w K mg base k where
 free:=λx hx=>t.T x (cr.mp hx)
 fns:=λj f n e=>by obtain⟨m,e1,ps,k',h1,h2,h3⟩:=h.at e;exact⟨m,k',ps,e1,h1,h2⟩
 cst:=λj x e=>by cases e
 qH:=λj f n e=>by obtain⟨m,e1,ps,k',h1,h2,h3⟩:=h.at e;exact⟨m,k',ps,e1,h1,h3⟩
 xk:=GC t
theorem Wb (t:Tx K mg CC HC):∀Γ X r,2<=r->Γ.fld=MQ->X.prog=P->X.w=w->X.K=K->X.mg=mg->X.base=base->Wfk Γ X r:=by
 intro Γ X r hr hf b d e hm g;subst b d e hm g;intro c fl hc;rw[hf]at hc;cases az.mp (cr.mp hc);obtain⟨A,D,f,fd,a⟩:=t.XN;refine⟨A,f,fd,["self","by"],1,t.G _ _ a.ns,a.xf,a.xi,hr,?_,a.fu.binds λ_ _ _ _ _ _=>dH λ_ _=>rfl⟩;refine EO (Γ:=gH (mq 18) [] [] []) (Z:=zH X.K X.mg [] [] []) (s:=V' "by") a.fu (eZ gS (i:=18) rfl) rfl rfl (zD t .nil) (λE=>MP rfl rfl .nil .nil .nil rfl rfl .nil .nil) rfl (.inl rfl) (by decide+kernel) (by rintro _ _ _ _ ⟨_,_,_,_,_,rfl,_⟩;rfl) ?_
 rintro _ _ _ _ ⟨x,C,ob,h,y,rfl,j,hc,hd,da,xf,q⟩
 exact⟨y,rfl,.ref x,rfl,x,C,ob,h,rfl,j,hc,hd,da,xf,λdp k l=>q dp k l⟩
theorem wm0 {r:DRow}{s:WS}{x qual:Str}{sp:Sp}{md:List (Str×Nat)}{mq:List (Str×Str)}(t:Tx K mg CC HC)(Fu:∃(dV oc:Value) (od:Option Addr) (kV doc pm:Value) (an:Option Addr) (cdv ct:Value) (osl:Array (Option Value)),fd=Z0 x qual (z0m r.st) (z0e r.st) (z0a r.st) dV kV doc pm an cdv ct/\K.lookup f=Z9 ⟨oc,od,.func fd,osl⟩/\ZZ K cdv qual=Z7)(Sc:FnScope r.N r.ps (z0a r.st))
  (a0:dC (Fd P w K mg base k) fns Φ:=by exact .nil) (a1:dC (Fc P w K mg base k) fn fS:=by exact .nil) (a2:dC (Mt P w K mg base k) me mS:=by exact .nil) (a3:dC (Mc P w K mg base k) cl cS:=by exact .nil) (a4:dC (Md P w K mg base k) md dS:=by exact .nil) (a5:dC (Mq P w K mg base k) mq qS:=by exact .nil) (kf:fld=[]\/fld=MQ/\2<=k:=by exact .inl rfl)
  (hc:wkL (gH r fn me cl md mq fns fld) s (z0e r.st)=true:=by decide+kernel) (run:∀vs H Q E (zG:Prop),(vs.length=r.ps.length->wS {zH K mg fS mS cS dS qS Φ with E:=E} s {nx:=λ_ H'=>Q .aO H',rt:=Q} (start r.N vs) H->zG)->sp vs H Q E->zG):FX P w K mg base (k+1) f fd r.ps sp:=
 zp5 Fu Sc rfl rfl (zD t a0) (λE=>MP rfl rfl a1 a2 a3 rfl rfl a4 a5) rfl (kf.imp_right λh X h1 h2 h3 h4 h5=>Wb t _ X k h.2 h.1 h1 h2 h3 h4 h5) hc (λvs H Q E=>run vs H Q E _ λa _=>a) λvs H Q E=>run vs H Q E _ λ_ b=>b
theorem MR (t:Tx K mg CC HC):Mt P w K mg base 1 ("stands",1) (CC,"stands",z3g K CC)/\Mt P w K mg base 2 ("found",2) (CC,"found",z8z K CC mg)/\Mt P w K mg base 2 ("line",1) (CC,"line",z5l K CC mg)/\Mt P w K mg base 1 ("pairs_told",0) (CC,"pairs_told",spPt K CC)/\Mc P w K mg base 4 ("Courts",1) (CC,zan K CC mg):=by
 have ck:CrtK K CC:=⟨t.CA.cls,t.CA.na _ (.head _)⟩;obtain⟨A,l,e,C⟩:=t.CA.ms ("stands",cm 1) (.head _);obtain⟨D,m,f,E⟩:=t.CA.ms ("found",cm 2) (mI (i:=1) rfl);obtain⟨F,n,g,H⟩:=t.CA.ms ("line",cm 4) (mI (i:=2) rfl);obtain⟨I,o,h,y⟩:=t.CA.ms ("__init__",cm 0) (mI (i:=3) rfl);obtain⟨J,p,j,L⟩:=t.CA.ms ("pairs_told",cm 3) (mI (i:=4) rfl);have k:Mt P w K mg base 1 ("stands",1) (CC,"stands",z3g K CC):=⟨rfl,A,l,["self","court"],1,ak _,wm0 (s:=Ct.oH) t ⟨_,e.ex⟩ (eZ gS (i:=0) rfl) (run:=by rintro _ _ _ _ _ b ⟨x,dx,d,kvs,es,v,c,B,rfl,ct,r,q⟩;exact b rfl (zbj ck ct r q)),t.CA.cls,C,e.binds λ_ _ _ _ _ _=>dH λ_ _=>rfl⟩;have z:Mt P w K mg base 2 ("found",2) (CC,"found",z8z K CC mg):=⟨rfl,D,m,["self","court","above"],2,ak _,wm0 (s:=Ct.found) t ⟨_,f.ex⟩ (eZ gS (i:=1) rfl) (a2:=.cons k .nil) (run:=by rintro _ _ _ _ _ b ⟨x,dx,d,kvs,es,Y,Z,c,a,B,rfl,ct,rc,M,u,q⟩;exact b rfl (zd4 ck rfl ct rc M u q)),t.CA.cls,E,f.binds λ_ _ _ _ _ _=>pD λ_ _ _=>rfl⟩;have N:Mt P w K mg base 2 ("line",1) (CC,"line",z5l K CC mg):=⟨rfl,F,n,["self","court"],2,ak _,wm0 (s:=Ct.line) t ⟨_,g.ex⟩ (eZ gS (i:=2) rfl) (a2:=.cons k .nil) (run:=by rintro _ _ _ _ _ b ⟨x,dx,d,kvs,es,v,c,B,rfl,ct,r,q⟩;exact b rfl (zfx ck rfl ct r q)),t.CA.cls,H,g.binds λ_ _ _ _ _ _=>dH λ_ _=>rfl⟩;have O:Mt P w K mg base 1 ("pairs_told",0) (CC,"pairs_told",spPt K CC):=⟨rfl,J,p,["self"],1,ak _,wm0 (s:=Ct.pairs) t ⟨_,j.ex⟩ (eZ gS (i:=4) rfl) (run:=by rintro _ _ _ _ _ b ⟨x,dx,d,kvs,es,rfl,ct,q⟩;exact b rfl (TY ck ct q)),t.CA.cls,L,j.binds λ_ _ _ _ _ _=>uO λ_=>rfl⟩;refine⟨k,z,N,O,I,o,["self","pairs"],3,ak _,wm0 (s:=Ct.init) t ⟨_,h.ex⟩ (eZ gS (i:=3) rfl) (a2:=.cons (k.up (by decide)) (.cons z .nil)) (run:=?_),⟨t.CA.Kl,y.at_,y.fn,t.CA.kp⟩,t.G _ _ t.CA.ns,h.binds λ_ _ _ _ _ _=>dH λ_ _=>rfl⟩
 rintro _ _ _ _ _ b ⟨x,dx,vp,ps,B,rfl,Q,R,S,T,u,q⟩
 refine b rfl ?_;refine zhs ck rfl Q R S T u ?_;unfold uY at *
 split at q
 .exact λU d kvs V W X _=>q U d kvs V W X
 .exact q
end
theorem MS {P:cu}{w:World}{K:Z5}{mg:Str->Option Value}{base:Heap}{CX:CXT}{k:Nat}{f:Addr}{fd:d5}{ps:List Str}{n:Nat}{m:Fn}(F:FnOk P w K mg base nD k f fd ps (spD K n m)):FnOk P w K mg base CX k f fd ps (spD K n m):=
 ⟨F.len,λA outer s H args us vs Q E hr he hb hv hs=>i3 (F.run A outer s H args us vs Q E hr he hb hv hs) λr s' z=>by
  cases r with
  |error e=>exact(show False from z).elim
  |ok x=>cases x<;>exact z⟩
section
variable {P:cu}{w:World}{K:Z5}{mg:Str->Option Value}{base:Heap}{CC HC:Addr}
theorem zE (h:lP P w K mg base i r)(a:r.kd=.n)(c:i<21):Fc P w K mg base 21 (r.nm,n) (spD K r.ps.length r.F):=by unfold lP at h;rw[a]at h;obtain⟨⟨f,fd,F,m,k,b⟩,_⟩:=h;exact⟨f,fd,r.ps,i+1,c,MS F,m,k,b⟩
variable (P w K mg base CC HC)in
structure Wd:Prop where
 st:Md P w K mg base 23 ("standing",2) (HC,"standing",spSt cI K HC CC mg)
 sm:Mt P w K mg base 23 ("standing",3) (HC,"standing",spSt cI K HC CC mg)
 sk:Mq P w K mg base 23 ("standing","day") (HC,"standing",spSt cI K HC CC mg)
 bd:Md P w K mg base 24 ("bound",3) (HC,"bound",spBo cI K HC CC)
 bm:Mt P w K mg base 24 ("bound",4) (HC,"bound",spBo cI K HC CC)
 ov:Mt P w K mg base 22 ("overrule",3) (HC,"overrule",spOv cI K HC CC)
 ft:Mt P w K mg base 2 ("fate",1) (HC,"fate",spFt cI K HC CC mg)
 en:Mt P w K mg base 25 ("enter",6) (HC,"enter",spEn cI K HC CC mg)
 Gy:Mc P w K mg base 6 ("House",1) (HC,spHi K HC CC)
theorem zo0 {st:Stmt}(F:FunD K x c st T f fd)
  (h:∀kV a e an b ct d,d.length=ps.length->∃k,jg (Z0 x c (z0m st) (z0e st) (z0a st) (.ref T) kV a e an b ct) ⟨d,[]⟩=kt (.ref T)>>=k/\k (Z9 #[.none])=pure (ps.zip d)):Binds K fd ps []:=λs d j g=>by
 obtain⟨oc,od,kV,a,e,an,b,ct,l,rfl,u,m⟩:=F.ex;obtain⟨o,p,n,i,q⟩:=F.df;rw[dw]at g ⊢;obtain⟨k,r,t⟩:=h kV a e an b ct d g;exact W.binds_K j rfl q rfl r t
theorem Wf (t:Tx K mg CC HC)(T:∀i r,i<36->(Rz++[Lr])[i]?=Z9 r->lP P w K mg base i r):Wd P w K mg base CC HC:=by
 obtain⟨c1,c2,c3,c4,c5⟩:=MR (P:=P) (w:=w) (base:=base) t;have p:HouK K HC:=⟨t.HA.cls,t.HA.na _ (.head _),t.HA.na _ (mI (i:=1) rfl),t.HA.na _ (mI (i:=2) rfl),t.HA.na _ (mI (i:=3) rfl)⟩;have dS:Fc P w K mg base 21 ("stood",2) (spD K 2 zg):=zE (T 7 _ dc rfl) rfl dc;have dA:Fc P w K mg base 21 ("against",2) (spD K 2 hY):=zE (T 5 _ dc rfl) rfl dc;have dB:Fc P w K mg base 21 ("barred",2) (spD K 2 Bm):=zE (T 6 _ dc rfl) rfl dc;have dR:Fc P w K mg base 21 ("ruling",3) (spD K 3 rG):=zE (T 4 _ dc rfl) rfl dc;obtain⟨f0,Wg,U,M0⟩:=t.HA.ms ("__init__",hh 0) (.head _);obtain⟨f2,J',V,M2⟩:=t.HA.ms ("enter",hh 2) (mI (i:=1) rfl);obtain⟨f7,Wh,X,M7⟩:=t.HA.ms ("fate",hh 7) (mI (i:=2) rfl);obtain⟨f8,Wi,Y,M8⟩:=t.HA.ms ("overrule",hh 3) (mI (i:=3) rfl);obtain⟨f9,Wj,Z,M9⟩:=t.HA.ms ("about",hh 9) (mI (i:=4) rfl);obtain⟨Wk,GF,E,Wl⟩:=t.HA.ms ("rulings_at",hh 10) (mI (i:=5) rfl);obtain⟨Wm,GG,F,Wn⟩:=t.HA.ms ("felled",hh 11) (mI (i:=6) rfl);obtain⟨Wo,GH,H,Wq⟩:=t.HA.ms ("is_felled",hh 12) (mI (i:=7) rfl);obtain⟨Wr,GI,I,Ws⟩:=t.HA.ms ("check_court",hh 13) (mI (i:=8) rfl);obtain⟨Wt,GJ,J,Wu⟩:=t.HA.ms ("check_deed",hh 14) (mI (i:=9) rfl);obtain⟨Wv,GK,L,Ww⟩:=t.HA.ms ("check_allowed",hh 15) (mI (i:=10) rfl);obtain⟨Wx,GL,M,Wy⟩:=t.HA.ms ("check_number",hh 16) (mI (i:=11) rfl);have dG:Fc P w K mg base 21 ("binding",2) (spD K 2 zb1):=zE (T 12 _ dc rfl) rfl dc;obtain⟨T5,f5,Q,R,M5⟩:=t.HD ("bound",hh 5) (.tail _ (.head _));obtain⟨S,f4,z,C,M4⟩:=t.HD ("standing",hh 4) (.head _);have F9:Mt P w K mg base 22 ("about",2) (HC,"about",spAb cI K HC CC):=⟨rfl,f9,Wj,["self","word","day"],22,ak _,wm0 (s:=Hs.about) t ⟨_,Z.ex⟩ (eZ gS (i:=10) rfl) (a1:=.cons dS .nil) (run:=by rintro _ _ _ _ _ g ⟨x,A,h,vw,w,vd,dy,B,rfl,th,ok,j,rd,hd,q⟩;exact g rfl (zd1 p rfl MM th ok j rd hd q)),t.HA.cls,M9,Z.binds λ_ _ _ _ _ _=>pD λ_ _ _=>rfl⟩;have MT:Mt P w K mg base 1 ("rulings_at",1) (HC,"rulings_at",spRa cI K HC CC):=⟨rfl,Wk,GF,["self","numbers"],1,ak _,wm0 (s:=Hs.gQ) t ⟨_,E.ex⟩ (eZ gS (i:=11) rfl) (run:=by rintro _ _ _ _ _ g ⟨x,A,h,vn,ks,B,rfl,th,ok,rn,WA,q⟩;exact g rfl (z6v p th ok rn WA q)),t.HA.cls,Wl,E.binds λ_ _ _ _ _ _=>dH λ_ _=>rfl⟩;have X4:FX P w K mg base 23 f4 z ["self","court","word","day"] (spSt cI K HC CC mg):=wm0 (s:=Hs.iO) t ⟨_,C.ex⟩ (eZ gS (i:=8) rfl) (a2:=.cons (c3.up dc) (.cons F9 .nil)) (run:=by rintro _ _ _ _ _ g ⟨x,A,h,N,c,vw,w,vd,dy,B,rfl,th,ok,rc,j,rd,hd,q⟩;exact g rfl (z86 p rfl rfl th ok rc j rd hd q));have F4:Md P w K mg base 23 ("standing",2) (HC,"standing",spSt cI K HC CC mg):=⟨rfl,f4,z,_,23,ak _,X4,t.HA.cls,M4,C.binds λkV m D an o ct l u=>pD (P:=λl=>∃k,jg (Z0 "standing" ("House"++"."++"standing") (z0m (hh 4)) (z0e (hh 4)) (z0a (hh 4)) (.ref S) kV m D an o ct) ⟨l,[]⟩=kt (.ref S)>>=k/\k (Z9 #[.none])=(pure ((["self","court","word","day"]:List Str).zip (l++[.none])):Sem (List (Str×Value)))) (λ_ _ _=>⟨_,rfl,rfl⟩) l (Nat.succ.inj u)⟩;have MU:Mt P w K mg base 23 ("standing",3) (HC,"standing",spSt cI K HC CC mg):=⟨rfl,f4,z,_,23,ak _,X4,t.HA.cls,M4,zo0 C λkV m D an o ct l u=>by4 (P:=λl=>∃k,jg (Z0 "standing" ("House"++"."++"standing") (z0m (hh 4)) (z0e (hh 4)) (z0a (hh 4)) (.ref S) kV m D an o ct) ⟨l,[]⟩=kt (.ref S)>>=k/\k (Z9 #[.none])=(pure ((["self","court","word","day"]:List Str).zip l):Sem (List (Str×Value)))) (λ_ _ _ _=>⟨_,rfl,rfl⟩) l u⟩;have WB:Mq P w K mg base 23 ("standing","day") (HC,"standing",spSt cI K HC CC mg):=⟨rfl,f4,z,_,23,ak _,X4,t.HA.cls,M4,C.kbinds (by simp) λkV m D an o ct l w u=>pD (P:=λl=>∃k,jg (Z0 "standing" ("House"++"."++"standing") (z0m (hh 4)) (z0e (hh 4)) (z0a (hh 4)) (.ref S) kV m D an o ct) ⟨l,[("day",w)]⟩=kt (.ref S)>>=k/\k (Z9 #[.none])=(pure ((["self","court","word","day"]:List Str).zip (l++[w])):Sem (List (Str×Value)))) (λ_ _ _=>⟨_,rfl,rfl⟩) l (Nat.succ.inj u)⟩;have X5:FX P w K mg base 24 f5 Q ["self","court","word","case","day"] (spBo cI K HC CC):=wm0 (s:=L4.bo) t ⟨_,R.ex⟩ (eZ gS (i:=19) rfl) (a1:=.cons (dG.up dc) .nil) (a2:=.cons MU (.cons (MT.up dc) .nil)) (run:=by rintro _ _ _ _ _ g ⟨x,A,h,N,s,vw,w,vk,f,a,vd,dy,B,rfl,th,ok,v,rc,j,rk,cs,rd,hd,hc,q⟩;exact g rfl (znb rR rfl rfl rfl th ok v rc j rk cs rd hd hc q));have F5:Md P w K mg base 24 ("bound",3) (HC,"bound",spBo cI K HC CC):=⟨rfl,f5,Q,_,24,ak _,X5,t.HA.cls,M5,R.binds λkV m D an o ct l u=>by4 (P:=λl=>∃k,jg (Z0 "bound" ("House"++"."++"bound") (z0m (hh 5)) (z0e (hh 5)) (z0a (hh 5)) (.ref T5) kV m D an o ct) ⟨l,[]⟩=kt (.ref T5)>>=k/\k (Z9 #[.none])=(pure ((["self","court","word","case","day"]:List Str).zip (l++[.none])):Sem (List (Str×Value)))) (λ_ _ _ _=>⟨_,rfl,rfl⟩) l (Nat.succ.inj u)⟩;have WC:Mt P w K mg base 24 ("bound",4) (HC,"bound",spBo cI K HC CC):=⟨rfl,f5,Q,_,24,ak _,X5,t.HA.cls,M5,zo0 R λkV m D an o ct l u=>AA (P:=λl=>∃k,jg (Z0 "bound" ("House"++"."++"bound") (z0m (hh 5)) (z0e (hh 5)) (z0a (hh 5)) (.ref T5) kV m D an o ct) ⟨l,[]⟩=kt (.ref T5)>>=k/\k (Z9 #[.none])=(pure ((["self","court","word","case","day"]:List Str).zip l):Sem (List (Str×Value)))) (λ_ _ _ _ _=>⟨_,rfl,rfl⟩) l u⟩;have WD:Mt P w K mg base 22 ("is_felled",3) (HC,"is_felled",spIf cI K HC CC):=⟨rfl,Wo,GH,["self","number","court","made"],22,ak _,wm0 (s:=Hs.iP) t ⟨_,H.ex⟩ (eZ gS (i:=13) rfl) (a1:=.cons dA .nil) (a2:=.cons (c3.up dc) .nil) (run:=by rintro _ _ _ _ _ g ⟨x,A,h,k,N,s,vm,r,B,rfl,th,ok,tK,rc,rm,O,q⟩;exact g rfl (z7o p rfl rfl V7 th ok tK rc rm O q)),t.HA.cls,Wq,H.binds λ_ _ _ _ _ _=>by4 λ_ _ _ _=>rfl⟩;have WE:Mt P w K mg base 23 ("felled",3) (HC,"felled",spFe cI K HC CC):=⟨rfl,Wm,GG,["self","court","word","made"],23,ak _,wm0 (s:=Hs.oM) t ⟨_,F.ex⟩ (eZ gS (i:=12) rfl) (a2:=.cons F9 (.cons WD .nil)) (run:=by rintro _ _ _ _ _ g ⟨x,A,h,N,s,vw,w,vm,r,B,rfl,th,ok,rc,j,rm,O,q⟩;exact g rfl (zbn p rfl rfl th ok rc j rm O q)),t.HA.cls,Wn,F.binds λ_ _ _ _ _ _=>by4 λ_ _ _ _=>rfl⟩;have WG:Mt P w K mg base 3 ("check_court",1) (HC,"check_court",spCc K HC CC mg):=⟨rfl,Wr,GI,["self","court"],3,ak _,wm0 (s:=Hs.fO) t ⟨_,I.ex⟩ (eZ gS (i:=14) rfl) (a2:=.cons c3 .nil) (run:=by rintro _ _ _ _ _ g ⟨x,A,h,N,c,B,rfl,th,rc,q⟩;exact g rfl (z5b p rfl th rc q)),t.HA.cls,Ws,I.binds λ_ _ _ _ _ _=>dH λ_ _=>rfl⟩;have MV:Mt P w K mg base 4 ("check_deed",2) (HC,"check_deed",spCd K HC CC mg):=⟨rfl,Wt,GJ,["self","day","court"],4,ak _,wm0 (s:=Hs.gR) t ⟨_,J.ex⟩ (eZ gS (i:=15) rfl) (a2:=.cons WG .nil) (run:=by rintro _ _ _ _ _ g ⟨x,A,h,N,c,n,B,rfl,th,rc,q⟩;exact g rfl (z6k p rfl th rc q)),t.HA.cls,Wu,J.binds λ_ _ _ _ _ _=>pD λ_ _ _=>rfl⟩
 have WH:Mt P w K mg base 24 ("check_allowed",3) (HC,"check_allowed",spCa cI K HC CC mg):=⟨rfl,Wv,GK,["self","court","word","made"],24,ak _,wm0 (s:=Hs.eE) t ⟨_,L.ex⟩ (eZ gS (i:=16) rfl) (a1:=.cons (dB.up dc) .nil) (a2:=.cons (MT.up dc) .nil) (a4:=.cons F4 .nil) (kf:=.inr ⟨rfl,by decide⟩) (run:=by
  rintro _ _ _ _ _ g ⟨x,A,h,N,s,vw,w,vm,r,B,rfl,th,ok,rc,j,rm,O,hc,q⟩
  refine g rfl ?_;cases v:bar cI h s w r with
  |none=>rw[v]at q;exact z2e p rfl rfl rfl MO th ok rc j rm O hc (by rw[v];exact λ_=>q)
  |some k=>rw[v]at q;exact z2e p rfl rfl rfl MO th ok rc j rm O hc (by rw[v];exact q)),t.HA.cls,Ww,L.binds λ_ _ _ _ _ _=>by4 λ_ _ _ _=>rfl⟩
 have MW:Mt P w K mg base 1 ("check_number",1) (HC,"check_number",spCn K HC CC mg):=⟨rfl,Wx,GL,["self","number"],1,ak _,wm0 (s:=Hs.eS) t ⟨_,M.ex⟩ (eZ gS (i:=17) rfl) (run:=by
  rintro _ _ _ _ _ g ⟨x,A,h,n,rfl,th,v,q⟩
  refine g rfl ?_;refine TZ p th v ?_;by_cases e:pF h n=Z7
  .rw[tw e]at q ⊢;exact λ_=>q
  .rw[tx e]at q ⊢;exact q),t.HA.cls,Wy,M.binds λ_ _ _ _ _ _=>dH λ_ _=>rfl⟩
 have F7:Mt P w K mg base 2 ("fate",1) (HC,"fate",spFt cI K HC CC mg):=⟨rfl,f7,Wh,["self","number"],2,ak _,wm0 (s:=Hs.yY) t ⟨_,X.ex⟩ (eZ gS (i:=6) rfl) (a2:=.cons MW .nil) (run:=by rintro _ _ _ _ _ g ⟨x,A,h,n,rfl,th,ok,q⟩;exact g rfl (T1 p rfl th ok q)),t.HA.cls,M7,X.binds λ_ _ _ _ _ _=>dH λ_ _=>rfl⟩;have F8:Mt P w K mg base 22 ("overrule",3) (HC,"overrule",spOv cI K HC CC):=⟨rfl,f8,Wi,["self","day","court","number"],22,ak _,wm0 (s:=L4.ov) t ⟨_,Y.ex⟩ (eZ gS (i:=9) rfl) (a1:=.cons dS .nil) (a2:=.cons (MV.up dc) (.cons (MW.up dc) (.cons (c3.up dc) .nil))) (run:=by rintro _ _ _ _ _ g ⟨x,A,h,n,N,s,k,B,rfl,th,ok,u,hf,rc,hc,Am,hla,q⟩;exact g rfl (zpc p rfl rfl rfl rfl MM th ok u hf rc hc Am hla λH' f t _=>q H' f t)),t.HA.cls,M8,Y.binds λ_ _ _ _ _ _=>by4 λ_ _ _ _=>rfl⟩;have F2:Mt P w K mg base 25 ("enter",6) (HC,"enter",spEn cI K HC CC mg):=⟨rfl,f2,J',["self","day","court","word","case","side","reason"],25,ak _,wm0 (s:=Hs.enter) t ⟨_,V.ex⟩ (eZ gS (i:=7) rfl) (a1:=.cons (dR.up dc) .nil) (a2:=.cons (MV.up dc) (.cons WH (.cons (WE.up dc) .nil))) (run:=by rintro _ _ _ _ _ g ⟨x,A,h,n,N,c,vw,w,v4,v5,v6,a,b,r,B,rfl,th,ok,v,rc,j,r4,r5,r6,im,O,q⟩;exact g rfl (ze0 p rfl rfl rfl rfl V9 th ok v rc j r4 r5 r6 im O q)),t.HA.cls,M2,V.binds λ_ _ _ _ _ _=>GB λ_ _ _ _ _ _ _=>rfl⟩;refine⟨F4,MU,WB,F5,WC,F8,F7,F2,f0,Wg,["self","courts"],5,ak _,?_,⟨t.HA.Kl,M0.at_,M0.fn,t.HA.kp⟩,t.G _ _ t.HA.ns,U.binds λ_ _ _ _ _ _=>dH λ_ _=>rfl⟩;refine wm0 (s:=Hs.init) t ⟨_,U.ex⟩ (eZ gS (i:=5) rfl) (a2:=.cons (c4.up dc) .nil) (a3:=.cons c5 .nil) (run:=?_)
 rintro _ _ _ _ _ g ⟨x,dx,y,dy,d,kvs,es,rfl,hx,ct,af,hz,q⟩
 refine g rfl ?_;exact ze6 p rfl rfl hx ct af hz λ_=>q
end
theorem WI {P:cu}{w:World}{K:Z5}{mg:Str->Option Value}{base:Heap}{k:Nat}{f:Addr}{fd:d5}{ps:List Str}{sp MX:Sp}(F:FnOk P w K mg base (CXE P w base) k f fd ps sp)(h:∀vs H Q E,MX vs H Q E->sp vs H Q λ_ _ _=>False):FnOk P w K mg base nD k f fd ps MX:=
 ⟨λvs H Q E q=>F.len vs H Q _ (h _ _ _ _ q),λA outer s H args us vs Q E hr he hb hv hs=>i3 (F.run A outer s H args us vs Q _ hr he hb hv (h _ _ _ _ hs)) λr s' z=>by
  cases r with
  |error e=>obtain⟨_,_,_,_,_,_,z⟩:=z;exact z.elim
  |ok x=>cases x<;>exact z⟩
def zF:Fn:=λds=>match ds with
 | [.list xs]=>if(xs.all λx=>match x with|.int _=>Z7|_=>Z6)&&decide (xs.length<=63)then .ok (.fr,.bool Z7)else .no
 |_=>.no
theorem WJ {a:List Int}(b:a.length<=63):zF [.list (a.map .int)]=.ok (.fr,.bool Z7):=by show(if((a.map ZU).all _&&decide ((a.map ZU).length<=63))=Z7 then Res.ok (G.fr,PyData.bool Z7)else Res.no)=_;rw[tw];rw[ae,ua b,Bool.and_true,q9,cc];intro x _;rfl
theorem kY:∀{a:List D},(a.all λx=>match x with|.int _=>Z7|_=>Z6)=Z7->∃b:List Int,a=b.map .int
 | [],_=>⟨[],rfl⟩
 |y::a,h=>by
  rw[db,au]at h;obtain⟨b,e⟩:=kY h.2;cases y with
  |int i=>exact⟨i::b,by rw[e];rfl⟩
  |_=>cases h.1
section
variable {P:cu}{w:World}{K:Z5}{mg:Str->Option Value}{base:Heap}{CC HC:Addr}
theorem GN (h:lP P w K mg base i r)(a:r.kd=.n)(c:i<k):Fc P w K mg base k (r.nm,n) (spD K r.ps.length r.F):=by unfold lP at h;rw[a]at h;obtain⟨⟨f,fd,F,m,d,b⟩,_⟩:=h;exact⟨f,fd,r.ps,i+1,c,MS F,m,d,b⟩
theorem GO (t:Tx K mg CC HC)(z:∀i r,i<36->(Rz++[Lr])[i]?=Z9 r->lP P w K mg base i r)(O:∀i r,i<40->(Rz++[Lr])[i]?=Z9 r->Own K mg r.nm r.st r.ps){f:Addr}{fd:d5}(Fl:Fun K "law" "law" (top 59) f fd):FnOk P w K mg base nD 41 f fd ["_law_script"] (spD K 1 zF):=by
 obtain⟨c1,c2,c3,c4,c5⟩:=MR (P:=P) (w:=w) (base:=base) t;have hm:=Wf (P:=P) (w:=w) (base:=base) t z;obtain⟨f1,D,G,m1,k1,b1⟩:=O 36 _ dc rfl;obtain⟨f2,I,J,m2,k2,b2⟩:=O 37 _ dc rfl;obtain⟨f3,L,M,m3,k3,b3⟩:=O 38 _ dc rfl;obtain⟨f4,N,R,m4,k4,b4⟩:=O 39 _ dc rfl;have d:∀{i k:Nat} {r:DRow},(Rz++[Lr])[i]?=Z9 r->i<36->r.kd=.n->i<k->Fd P w K mg base k (r.nm,r.ps.length) r.F:=λe hi hk h=>Wa (z _ _ hi e) hk h;have A1:Fc P w K mg base 26 ("_law_told_enter",5) (spTe cI K HC CC):=⟨f1,D,_,26,ak _,wm0 (s:=Hl.te) t ⟨_,G.ex⟩ (eZ mE (i:=36) rfl) (a2:=.cons hm.en .nil) (kf:=.inr ⟨rfl,by decide⟩) (run:=by rintro _ _ _ _ _ j ⟨x,A,h,n,vc,s,vw,w,vm,a,b,r,B,rfl,th,ok,l,rc,m,rm,im,hg,hc,o,q⟩;exact j rfl (zp8 rfl th ok l rc m rm im hg hc o q)),m1,k1,b1⟩;have A2:Fc P w K mg base 37 ("_law_enter",6) (spEl cI K):=⟨f2,I,_,37,ak _,wm0 (s:=L2k.el) t ⟨_,J.ex⟩ (eZ mE (i:=37) rfl) (a0:=.cons (d (i:=27) rfl dc rfl dc) (.cons (d (i:=31) rfl dc rfl dc) (.cons (d (i:=32) rfl dc rfl dc) .nil))) (run:=by rintro _ _ _ _ _ j ⟨Y,a,n,vc,vw,vm,S,fs,h,rs,s,w,p,B,rfl,nd,es,ok,l,tl,rr,rc,m,rm,hp,hc,T,q⟩;exact j rfl (zqa rfl rfl rR nd es ok l tl rr rc m rm hp hc T q)),m2,k2,b2⟩;have A3:Fc P w K mg base 38 ("_law_deed",7) (spDe cI K HC CC):=⟨f3,L,_,38,ak _,wm0 (s:=L4.de) t ⟨_,M.ex⟩ (eZ mE (i:=38) rfl) (a0:=.cons (d (i:=29) rfl dc rfl dc) (.cons (d (i:=17) rfl dc rfl dc) (.cons (d (i:=31) rfl dc rfl dc) .nil))) (a1:=.cons (A1.up dc) (.cons A2 .nil)) (a2:=.cons (hm.ov.up dc) .nil) (run:=by rintro _ _ _ _ _ j ⟨x,A,a,S,fs,h,rs,ns,Y,vn,vk,c,g,dy,B,rfl,fx,U,W,T,l,o,q⟩;exact j rfl (zrl rfl rfl rR rfl rfl rfl fx U W T l o q)),m3,k3,b3⟩;have A4:Fc P w K mg base 38 ("_law_day_good",7) (spDg cI K HC CC):=⟨f4,N,_,38,ak _,wm0 (s:=L4.dg) t ⟨_,R.ex⟩ (eZ mE (i:=39) rfl) (a0:=.cons (d (i:=17) rfl dc rfl dc) (.cons (d (i:=24) rfl dc rfl dc) (.cons (d (i:=33) rfl dc rfl dc) (.cons (d (i:=34) rfl dc rfl dc) .nil)))) (a1:=.cons (GN (n:=2) (z 35 _ dc rfl) rfl dc) .nil) (a2:=.cons (hm.sm.up dc) (.cons (hm.bm.up dc) .nil)) (a4:=.cons (hm.st.up dc) (.cons (hm.bd.up dc) .nil)) (a5:=.cons (hm.sk.up dc) .nil) (run:=by rintro _ _ _ _ _ j ⟨x,A,a,S,fs,h,rs,ns,Y,vn,vk,c,g,z,B,rfl,fx,U,W,l,hy,q⟩;exact j rfl (zno rfl rfl rR GA rfl rfl rfl rfl rfl rfl fx U W l hy q)),m4,k4,b4⟩
 let sp:Sp:=λvs H Q _=>∃(X:V) (y:List Int) (B:Ad->Prop),vs=[X]/\Rep K H B X (.list (y.map ZU))/\y.length<=63/\∀C,Same H C->Q (.bl Z7) C
 have F8:FX P w K mg base 41 f fd ["_law_script"] sp:=wm0 (s:=L4.la) t ⟨_,Fl.ex⟩ (eZ mE (i:=40) rfl) (a0:=.cons (d (i:=13) rfl dc rfl dc) (.cons (d (i:=18) rfl dc rfl dc) (.cons (d (i:=23) rfl dc rfl dc) (.cons (d (i:=30) rfl dc rfl dc) (.cons (d (i:=16) rfl dc rfl dc) (.cons (d (i:=17) rfl dc rfl dc) (.cons (d (i:=15) rfl dc rfl dc) .nil))))))) (a1:=.cons (A3.up dc) (.cons (A4.up dc) .nil)) (a2:=.cons (hm.ft.up dc) .nil) (a3:=.cons (c5.up dc) (.cons (hm.Gy.up dc) .nil)) (run:=by rintro _ _ _ _ _ j ⟨X,y,B,rfl,r0,hl,q⟩;exact j rfl (zoj (φ:=cI) rfl rfl rfl rfl rfl rfl rfl hl r0 q));refine WI F8 λvs H Q E ⟨A,S,x,h1,h2,u,q⟩=>?_;unfold zF at u;split at u
 .rename_i ys;split at u
  .rename_i hc;rw[au,decide_eq_true_eq]at hc;cases u;obtain⟨y,rfl⟩:=kY hc.1;obtain⟨v,t,rfl,r0,hr⟩:=h2;have:t=[]:=hr;subst this;exact⟨v,y,A,rfl,r0,by rw[ae]at hc;exact hc.2,λC s=>q (.bl Z7) C s rfl⟩
  .cases u
 .cases u
end
section
variable {w:World}{K:Z5}{mg:Str->Option Value}{CC HC:Addr}
theorem all44 {l:W.OpenLaw}(X:K.In h)(G:h.Ns bt mg)(j:mg "law"=Z9 (.ref fa))(z:kOks K Rz)(C:∃f fd,Kf K Lr f fd)(E:∀n∈FREE,ZY K bt n=Z9 Z8)(k:kxs K Xt)(XN:∃A D f fd,XAt K xN A D f fd)(CA:ClsAt K CrC CC)(HA:ClsAt K CrH HC)(HD:∀m∈MdH,∃T f fd,FunD K m.1 ("House"++"."++m.1) m.2 T f fd/\Meth K HC m.1 f):
  ∃fd,(∀s v,pe s fd ⟨[v],[]⟩ [("_law_script",v)])/\∀base,K.In base->base.Ns bt mg->FnOk l.prog w K mg base nD 41 fa fd ["_law_script"] (spD K 1 zF):=by
 obtain⟨f,fd,a,oc,od,an,sl,kV,dc,t,cd,ct,rfl,o,hc,p⟩:=C;have e:=j.symm.trans (W.mg_of X G a);cases e;have T:=λn hn=>W.mg_none_of X G (E n hn);refine⟨Z0 "law" "law" (z0m (top 59)) (z0e (top 59)) (z0a (top 59)) .none kV dc t an cd ct,λs v=>.of_eq rfl,λbase _ _=>?_⟩;have O:∀i r,i<40->(Rz++[Lr])[i]?=Z9 r->Own K mg r.nm r.st r.ps:=λi r g e=>by rw[cy g]at e;obtain⟨⟨f,fd,a,oc,od,an,sl,kV,dc,t,cd,ct,rfl,o,hc,p⟩,F⟩:=Jr z e;exact znx X G a o hc p F
 have xk:∀b,b.sub=(Xt.map XR.subs).flatten->b.rs=Xt.map (·.c)->(b.hV=Xt.map λr=>(r.c,r.B))->sT b K mg:=λb H I J=>RY X G k (λ_=>T "ValueError" (by decide)) H I J;have d:((Rz++[Lr]).all λr=>r.kc.isEmpty)=true:=rfl;have q:∀r∈Rz++[Lr],∀y∈r.kc,D1 K mg y:=λr hr y u=>by have:=cc.mp d r hr;rw[ku.mp this]at u;cases u
 exact GO ⟨T,λx v e=>W.mg_of X G e,xk,XN,CA,HA,HD⟩ (λi r g e=>R0 mE V5 T xk 36 q (λi r g e=>O i r (by omega) e) i r g e) O (Ck o hc p)
end
def vL:DefRec:=⟨"law",z0m (top 59),z0e (top 59),z0a (top 59),⟨337,0,363,15⟩⟩
theorem BE:KEq rS (Rz++[Lr]) FREE Xt:=by
 rw[PySem.W.Fast.tkeq_eq];intro P
 kernel_rfl
theorem WK:Tp.said PySem.Challenge.rw_likebook_k44_days_gone_by=true:=by
 rw[PySem.W.Fast.tsaid_eq]
 kernel_rfl
theorem WL:W.opening mT=W.plainProg mT.main.scope.names:=by kernel_rfl
theorem WM:∀s,fenceModules? mT s=Z9 s:=λs=>by kernel_rfl
theorem WN:W.defOf wQ PySem.Challenge.rw_likebook_k44_days_gone_by.row.name=Z9 (vL,[]):=by kernel_rfl
theorem WO:mT.theDef PySem.Challenge.rw_likebook_k44_days_gone_by.row.name=Z9 (vL.params,vL.body,vL.scope):=by kernel_rfl
theorem WQ:W.kwWritten? vL.params.kwonlyargs vL.params.kw_defaults=Z9 []:=by kernel_rfl
theorem WR:(!PySem.Challenge.rw_likebook_k44_days_gone_by.row.writes||PySem.Challenge.rw_likebook_k44_days_gone_by.row.records.isEmpty)=true:=by kernel_rfl
theorem WT:(W.chainsOk wQ&&W.opensWell mT&&(W.frees PySem.Challenge.rw_likebook_k44_days_gone_by.row.toRowW&&PySem.Challenge.rw_likebook_k44_days_gone_by.row.within.isEmpty))=true:=by kernel_rfl
theorem walk {l:W.OpenLaw}{K:eu->Z5}(hn:l.most=Z9 63)(b:d.params.defaults=[])
  (c:∀(w:World) (h:Heap),e w h->(K w.params).In h)
  (F:∀(w:World) (mg:Str->Option Value) (fa:Addr) (h:Heap),(K w.params).In h->h.Ns bt mg->mg d.name=Z9 (.ref fa)->∃fd:d5,(∀(s:bb) (u:Value),pe s fd ⟨[u],[]⟩ [("_law_script",u)])/\∀base:Heap,(K w.params).In base->base.Ns bt mg->FnOk l.prog w (K w.params) mg base nD 41 fa fd ["_law_script"] (spD (K w.params) 1 zF)):
  W.WalkO q loose k e l.row.toRowW d [] (λf g=>PySem.call f g):=
 L2.walk_of hn (by decide) b ⟨rfl,by decide,by decide⟩ c F (λ_ _ a ns i _ j=>⟨_,_,_,rfl,RX j,WJ i,λv m _ r=>r⟩) λ_ _ _ _ _ z=>z
theorem WU:KCq rS CrC:=by
 rw[PySem.W.Fast.tkcq_eq];intro P
 kernel_rfl
theorem WV:KCq rS CrH:=by
 rw[PySem.W.Fast.tkcq_eq];intro P
 kernel_rfl
theorem WW:KDq rS "House" MdH:=by
 rw[PySem.W.Fast.tkdq_eq];intro P
 kernel_rfl
theorem WX:KXq rS [xN] []:=by
 rw[PySem.W.Fast.tkxq_eq];intro P
 kernel_rfl
theorem GP:uP Rz:=⟨λ_ _ _ _ _ _=>dH λ_ _=>rfl,λ_ _ _ _ _ _=>dH λ_ _=>rfl,λ_ _ _ _ _ _=>uO λ_=>rfl,λ_ _ _ _ _ _=>dH λ_ _=>rfl,λ_ _ _ _ _ _=>pD λ_ _ _=>rfl,λ_ _ _ _ _ _=>dH λ_ _=>rfl,λ_ _ _ _ _ _=>dH λ_ _=>rfl,λ_ _ _ _ _ _=>dH λ_ _=>rfl,λ_ _ _ _ _ _=>uO λ_=>rfl,λ_ _ _ _ _ _=>uO λ_=>rfl,λ_ _ _ _ _ _=>dH λ_ _=>rfl,λ_ _ _ _ _ _=>dH λ_ _=>rfl,λ_ _ _ _ _ _=>dH λ_ _=>rfl,λ_ _ _ _ _ _=>dH λ_ _=>rfl,λ_ _ _ _ _ _=>uO λ_=>rfl,λ_ _ _ _ _ _=>dH λ_ _=>rfl,λ_ _ _ _ _ _=>pD λ_ _ _=>rfl,λ_ _ _ _ _ _=>dH λ_ _=>rfl,λ_ _ _ _ _ _=>dH λ_ _=>rfl,λ_ _ _ _ _ _=>dH λ_ _=>rfl,λ_ _ _ _ _ _=>by4 λ_ _ _ _=>rfl,λ_ _ _ _ _ _=>dH λ_ _=>rfl,λ_ _ _ _ _ _=>dH λ_ _=>rfl,λ_ _ _ _ _ _=>dH λ_ _=>rfl,λ_ _ _ _ _ _=>by4 λ_ _ _ _=>rfl,λ_ _ _ _ _ _=>dH λ_ _=>rfl,λ_ _ _ _ _ _=>uO λ_=>rfl,λ_ _ _ _ _ _=>dH λ_ _=>rfl,λ_ _ _ _ _ _=>dH λ_ _=>rfl,λ_ _ _ _ _ _=>pD λ_ _ _=>rfl,λ_ _ _ _ _ _=>dH λ_ _=>rfl,λ_ _ _ _ _ _=>dH λ_ _=>rfl,λ_ _ _ _ _ _=>by4 λ_ _ _ _=>rfl,λ_ _ _ _ _ _=>AA λ_ _ _ _ _=>rfl,λ_ _ _ _ _ _=>pD λ_ _ _=>rfl,λ_ _ _ _ _ _=>dH λ_ _=>rfl,λ_ _ _ _ _ _=>AA λ_ _ _ _ _=>rfl,λ_ _ _ _ _ _=>Jq λ_ _ _ _ _ _=>rfl,λ_ _ _ _ _ _=>GB λ_ _ _ _ _ _ _=>rfl,λ_ _ _ _ _ _=>GB λ_ _ _ _ _ _ _=>rfl,trivial⟩
end Mk
open PySem PySem.W PyProof.Rows Mi
set_option maxRecDepth 100000 in
set_option maxHeartbeats 0 in
theorem PySem.Challenge.cw_likebook_k44_days_gone_by_holds : PySem.Challenge.rw_likebook_k44_days_gone_by.Holds := by
 refine Tp.holds (l:=PySem.Challenge.rw_likebook_k44_days_gone_by) (q:=Mk.wQ) (d:=Mk.vL) (K:=Mk.rS) (M:=100000) (N:=200000) Mk.WK (Tp.wO _ _ Mk.zI) Mk.WL rfl Mk.WM (by decide) Mk.MZ Mk.M1 Mk.WN Mk.WO Mk.WQ Mk.WR Mk.WT ⟨rfl,rfl,rfl,rfl,rfl,by decide+kernel⟩ (by w_witness2) ?_;refine Mk.walk (l:=PySem.Challenge.rw_likebook_k44_days_gone_by) rfl rfl (λw h Y=>Y) ?_;intro w mg fa h KX G WY;obtain⟨CC,CA⟩:=Km Mk.WU w.params;obtain⟨HC,HA⟩:=Km Mk.WV w.params;exact Mk.all44 (CC:=CC) (HC:=HC) KX G WY (Jw (λr hr=>(AD Mk.BE w.params).1 r (ey _ hr)) Mk.GP) ((AD Mk.BE w.params).1 Mk.Lr (bf _ (.head _))) (AD Mk.BE w.params).2.1 (AD Mk.BE w.params).2.2.1 ((Tv Mk.WX w.params).1 _ (.head _)) CA HA (Tz Mk.WW w.params HA.ns)
